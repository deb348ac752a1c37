/- The batch's commit. -/
import Derived.Test.YtpjgdpdgfchhkaaStoreCf
import Derived.Deep.RegionWith
namespace Go.Proofs.Ytpjgdpdgfchhkaa
open Go.ChangeShapes Go.WideShapes Go.ChangeAt Go.RowKit
set_option linter.unusedVariables false
set_option maxRecDepth 8000
namespace So
open Gen (TellsB TellsI row_one flat_len flat_get Mine)
/-- All that was fresh counts. -/
def GivesCm (w0 : World) (b p : Nat) (dn : Bool) (C : Option Addr) (g e : Nat) (us : List Cl) (z : Int) (en : Ending) (w' : World) : Prop :=
  ∃ A c, en = .returned (.int .i64 z) ∧ BaAt w0 b A p c none 0 0 dn C g e us [] w'
/-- Behind applied, before it is stored. -/
structure ApAt (w0 : World) (b : Nat) (A : Option Addr) (n c : Nat) (B : Option Addr) (m d : Nat) (us fs : List Cl) (V : Array Value) (w : World) : Prop where
  bt : Lies b V 60 w
  oa : w.ownsRow w0.heap.size 43 2 (.slice A n c) n (clc us)
  ob : w.ownsRow w0.heap.size 43 2 (.slice B m d) m (clc fs)
  ap : ∀ k, (Value.slice A n c).ownBlock = some k → (Value.slice B m d).ownBlock ≠ some k
  kb : w0.heap.size ≤ b
  below : Below w0.heap.size w0 w
theorem BaAt.applied {w0 : World} {b : Nat} {A : Option Addr} {n c : Nat} {B : Option Addr} {m d : Nat} {dn : Bool} {C : Option Addr} {g e : Nat} {cs fs : List Cl} {w : World} (h : BaAt w0 b A n c B m d dn C g e cs fs w) {w1 : World} {A' : Option Addr} {n' c' : Nat} {us : List Cl}
    (ho : w1.ownsRow w0.heap.size 43 2 (.slice A' n' c') n' (clc us)) (hm : Mine (fun k => (Value.slice A n c).ownBlock = some k) w w1) (hf : ∀ k, (Value.slice A' n' c').ownBlock = some k → (Value.slice A n c).ownBlock = some k ∨ w.heap.size ≤ k) :
    ApAt w0 b A' n' c' B m d us fs #[.slice A n c, .slice B m d, .bool dn, .slice C g e] w1 :=
  ⟨hm.lies h.bt h.na, ho, hm.own h.ob (fun k hk e => h.ap k e hk), fun k hk e => (hf k hk).elim (fun h1 => h.ap k h1 e) (fun h1 => by have := (h.ob.lt k e).2; omega), h.kb, hm.below h.below (fun k hk => (h.oa.lt k hk).1) h.below.size⟩
theorem ApAt.put {w0 : World} {b : Nat} {A A0 : Option Addr} {n c n0 c0 : Nat} {B : Option Addr} {m d : Nat} {dn : Bool} {C : Option Addr} {g e : Nat} {us fs : List Cl} {w : World} (h : ApAt w0 b A n c B m d us fs #[.slice A0 n0 c0, .slice B m d, .bool dn, .slice C g e] w) :
    BaAt w0 b A n c B m d dn C g e us fs (w.setCell ⟨b, 0, none⟩ (.slice A n c)) :=
  ⟨by have := h.bt.set 0 (.slice A n c); simpa using this, own_setO h.oa _ (Gen.own_apart h.oa h.bt (by decide)) _, own_setO h.ob _ (Gen.own_apart h.ob h.bt (by decide)) _, h.ap, h.kb, h.below.setCell (p := ⟨b, 0, none⟩) h.kb _⟩
theorem BaAt.no_fresh {w0 : World} {b : Nat} {A : Option Addr} {n c : Nat} {B : Option Addr} {m d : Nat} {dn : Bool} {C : Option Addr} {g e : Nat} {cs fs : List Cl} {w : World} (h : BaAt w0 b A n c B m d dn C g e cs fs w) :
    BaAt w0 b A n c none 0 0 dn C g e cs [] (w.setCell ⟨b, 1, none⟩ (.slice none 0 0)) :=
  ⟨by have := h.bt.set 1 (.slice none 0 0); simpa using this, own_setO h.oa _ h.na _, own_none, fun k hk e => (by cases e), h.kb, h.below.setCell (p := ⟨b, 1, none⟩) h.kb _⟩
set_option maxRecDepth 100000 in
set_option maxHeartbeats 2000000 in
theorem ckCommitB {w0 : World} {b : Nat} {A : Option Addr} {n c : Nat} {B : Option Addr} {m d : Nat} {dn : Bool} {C : Option Addr} {g e : Nat} {cs fs : List Cl} {w : World} (h : BaAt w0 b A n c B m d dn C g e cs fs w) (hgood : Good cs) (hmay : ∀ x ∈ fs, mayB x = true) (hn : n = cs.length) (hm : m = fs.length) (hl : n + m ≤ 100000) (us : List Cl) (hus : us = count cs fs) (p : Nat) (hp : p = us.length) (z : Int) (hz : z = if 64 < p then 3 else 0) :
    Calls Try.prog 29 #[.pointer (some ⟨b, 0, none⟩)] w (GivesCm w0 b p dn C g e us z) := by
  have HAP := Lib.hid (fun l x n hn hu ms hms m hm A c w' ho hl hK => ckApplied l x n hn hu ms hms m hm A c w0.heap.size w' ho hl hK)
  have HM := Lib.hid hm
  have HN := Lib.hid hn
  have HUS := Lib.hid hus
  have HP := Lib.hid hp
  have HZ := Lib.hid hz
  have HMAY := Lib.hid hmay
  have AT0 : Hid (BaAt w0 b A n c B m d dn C g e (count cs (fs.take 0)) fs w) := Lib.hid h
  have G0 : Hid (Good (count cs (fs.take 0))) := Lib.hid hgood
  have N0 : Hid (n = (count cs (fs.take 0)).length) := Lib.hid hn
  have x1 := h.bt.cell (j := 1) rfl
  clear h hgood hmay hn hm hus hp hz
  go_enter Try.func29, Try.ntmps29
  go_wp2_with fail
  clear x1
  go_loopw [11] (fun s11 wr => ∃ (k j : Nat) (A' : Option Addr) (c' : Nat) (vs : List Cl), s11 = .int .i64 k ∧ k ≤ m ∧ vs = count cs (fs.take k) ∧ j = vs.length ∧ j ≤ n + k ∧ Good vs ∧ BaAt w0 b A' j c' B m d dn C g e vs fs wr) (fun s11 _ => m - (intOf s11).toNat)
  case atStart => exact ⟨0, n, A, c, _, rfl, Nat.zero_le _, rfl, N0.out, Nat.le_refl _, G0.out, AT0.out⟩
  case round =>
    clear AT0 G0 N0
    obtain ⟨k, j, A', c', vs, rfl, hk, hvs, hj, hjn, hg, hat⟩ := hrel
    have HVS := Lib.hid hvs; have HJ := Lib.hid hj; have HJN := Lib.hid hjn; have HG := Lib.hid hg; have AT := Lib.hid hat
    clear hvs hj hjn hg hat
    by_cases hlt : k < m
    · obtain ⟨x, hx⟩ : ∃ x, fs[k]? = some x := ⟨_, List.getElem?_eq_getElem (by rw [← HM.out]; exact hlt)⟩
      obtain ⟨bq, off, hB1, c0, c1⟩ := cell_row (own_rowO AT.out.ob).1 hx
      subst hB1
      have hki : (k : Int) < (m : Int) := by omega
      have hw := wrapKO (k := k) (by omega)
      have HKM := Lib.hid hlt
      have HNX : Hid (count cs (fs.take (k + 1)) = withC vs x) := Lib.hid (by rw [HVS.out]; exact count_next hx)
      have HMX := Lib.hid (HMAY.out x (List.mem_of_getElem? hx))
      obtain ⟨ws, hws⟩ : ∃ ws, ws = withC vs x := ⟨_, rfl⟩
      obtain ⟨q, hq⟩ : ∃ q, q = ws.length := ⟨_, rfl⟩
      have HQN : Hid (q ≤ n + (k + 1)) := Lib.hid (by have := with_len vs x; have := HJ.out; have := HJN.out; rw [hq, hws]; omega)
      have HGW : Hid (Good ws) := Lib.hid (by rw [hws]; exact with_good HG.out HMX.out)
      have HCALL := Lib.hid (fun w' ho hK => HAP.out vs x j HJ.out HG.out.rise ws hws q hq A' c' w' ho (by have := HJN.out; omega) hK)
      have HWS := Lib.hid hws
      have HQ := Lib.hid hq
      clear hx hws hq hlt hk
      obtain ⟨xn, xb⟩ := x
      simp only [clC] at HCALL
      simp only at c0 c1
      go_upto_region 4 with fail
      clear c0 c1
      have A1 := Lib.hid (AT.out.next (below_al (o := .cells #[.string (kS xn), .string (kS xb)] 43) (Below.refl wr.heap.size wr)))
      have L1 := Lib.hid (Lies.new wr #[.string (kS xn), .string (kS xb)] 43)
      obtain ⟨b1, hb1⟩ : ∃ b, b = wr.heap.size := ⟨_, rfl⟩
      obtain ⟨W1, hW1⟩ : ∃ W, W = wr.alloc (.cells #[.string (kS xn), .string (kS xb)] 43) := ⟨_, rfl⟩
      rw [← hW1] at A1 L1 ⊢
      rw [← hb1] at L1 ⊢
      clear hW1 hb1 AT
      have A2 := Lib.hid (A1.out.next (below_drewOf (Below.refl W1.heap.size W1)))
      have HC1 := Lib.hid (HCALL.out W1.drew A2.out.oa A2.out.below.size)
      have z0 := L1.out.cell (j := 0) rfl; have z1 := L1.out.cell (j := 1) rfl
      have y0 := A1.out.bt.cell (j := 0) rfl
      clear HCALL HAP
      go_region_with (go_at_call 38; refine HC1.out.mono ?_; rintro e w2 ⟨A2', c2', rfl, ho2, hm2, hf2⟩; have AP := Lib.hid (A2.out.applied ho2 hm2 hf2); clear ho2 hm2 hf2; have u0 := AP.out.bt.cell (j := 0) rfl; have v0 := AP.out.bt.free 0)
      all_goals (
        have AF := Lib.hid AP.out.put
        clear z0 z1 y0 u0 v0 AP A1 A2 L1 HC1
        go_wp2_with fail
        go_roundw
        case rel => exact ⟨k + 1, q, A2', c2', ws, rfl, HKM.out, by rw [HNX.out]; exact HWS.out, HQ.out, HQN.out, HGW.out, AF.out⟩
        case measure => simp [intOf]; have := HKM.out; omega)
    · have hki : ¬ (k : Int) < (m : Int) := by omega
      have HE : Hid (vs = us) := Lib.hid (by rw [HVS.out, HUS.out, List.take_of_length_le (by rw [← HM.out]; omega)])
      have hjp : p = j := by rw [HJ.out, HE.out, HP.out]
      subst hjp
      have hvu := HE.out
      subst hvu
      have AN := Lib.hid AT.out.no_fresh
      have f1 := AT.out.bt.free 1; have q1 := AT.out.bt.cell (j := 1) rfl
      clear HAP hlt hk
      go_upto_region 7 with fail
      obtain ⟨W5, hW5⟩ : ∃ W, W = World.setCell wr ⟨b, 1, none⟩ (.slice none 0 0) := ⟨_, rfl⟩
      rw [← hW5] at AN ⊢
      clear hW5 f1 q1 AT
      have x0 := AN.out.bt.cell (j := 0) rfl
      by_cases h64 : 64 < p
      · have g1 : decide ((64 : Int) < (p : Int)) = true := decide_eq_true (by omega)
        have hz3 : z = 3 := HZ.out.trans (if_pos h64)
        subst hz3
        clear h64
        go_wp2_with fail
        go_ret
        exact ⟨A', c', rfl, AN.out⟩
      · have g1 : decide ((64 : Int) < (p : Int)) = false := decide_eq_false (by omega)
        have hz3 : z = 0 := HZ.out.trans (if_neg h64)
        subst hz3
        clear h64
        go_wp2_with fail
        go_ret
        exact ⟨A', c', rfl, AN.out⟩
end So
end Go.Proofs.Ytpjgdpdgfchhkaa
