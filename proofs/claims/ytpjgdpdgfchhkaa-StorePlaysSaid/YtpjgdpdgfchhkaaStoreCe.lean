/- The code's open; the batch: next, end, fail, write. -/
import Derived.Test.YtpjgdpdgfchhkaaStoreCd
import Derived.Test.YtpjgdpdgfchhkaaStill
namespace Go.Proofs.Ytpjgdpdgfchhkaa
open Go.ChangeShapes Go.WideShapes Go.ChangeAt Go.RowKit
set_option linter.unusedVariables false
set_option maxRecDepth 8000
namespace So
open Gen (TellsB TellsI row_one flat_len flat_get Mine)
def openO (r g dn : Bool) : Int := if r = false ∨ g = false then 1 else if dn then 170 else 0
theorem ckOpen (cs fs xs : List Cl) (n m g : Nat) (dn : Bool) (r q : Bool) (hn : n = cs.length) (hm : m = fs.length) (hg : g = xs.length) (hr : r = rightS ⟨cs, fs, dn⟩) (hq : q = xs.all mayB) (z : Int) (hz : z = openO r q dn) (A : Option Addr) (c : Nat) (B : Option Addr) (d : Nat) (C : Option Addr) (e : Nat) (w : World) (hA : Row w A (clc cs)) (hB : Row w B (clc fs)) (hC : Row w C (clc xs)) (hl : n ≤ 4611686018427387904) (hl2 : m ≤ 4611686018427387904) (hl3 : g ≤ 4611686018427387904) :
    Calls Try.prog 30 #[srV A n c B m d dn, .slice C g e] w (TellsI z w) := by
  have hb0 := below_al (o := .cells (srC A n c B m d dn) 24) (Below.refl w.heap.size w)
  have HRT := Lib.hid (fun w' (hb : Below w.heap.size w w') => ckRight cs fs n m dn r hn hm hr A c B d w' (hA.below hb) (hB.below hb) hl hl2)
  have HCL := Lib.hid (fun w' (hb : Below w.heap.size w w') => ckCells xs g C e q hg hq w' (hC.below hb) hl3)
  have HZ : Hid (z = openO r q dn) := Lib.hid hz
  have HB := Lib.hid hb0
  have L := Lib.hid (Lies.new w (srC A n c B m d dn) 24)
  clear hA hB hC hn hm hg hr hq hz hb0 hl hl2 hl3
  simp only [srC] at L HB
  go_enter Try.func30, Try.ntmps30
  go_upto_region 1 with fail
  obtain ⟨tb, htb⟩ : ∃ b, b = w.heap.size := ⟨_, rfl⟩
  obtain ⟨W, hW⟩ : ∃ W, W = w.alloc (.cells #[.slice A n c, .slice B m d, .bool dn] 24) := ⟨_, rfl⟩
  rw [← hW] at L HB ⊢
  rw [← htb] at L ⊢
  clear hW htb
  have x0 := L.out.cell (j := 0) rfl; have x1 := L.out.cell (j := 1) rfl; have x2 := L.out.cell (j := 2) rfl
  go_wp2_with fail
  refine (HRT.out _ HB.out).mono ?_
  rintro e w1 ⟨rfl, hb1⟩
  have HB1 := Lib.hid (below_next HB.out hb1)
  have L1 := Lib.hid (L.out.below hb1)
  clear hb1 x0 x1 x2 HB L
  cases r
  · have e1 : z = 1 := HZ.out.trans (if_pos (.inl rfl))
    subst e1
    go_wp2_with fail
    go_ret
    exact ⟨rfl, HB1.out⟩
  · go_wp2_with fail
    refine (HCL.out _ HB1.out).mono ?_
    rintro e w2 ⟨rfl, hb2⟩
    have HB2 := Lib.hid (below_next HB1.out hb2)
    have L2 := Lib.hid (L1.out.below hb2)
    clear hb2
    cases q
    · have e1 : z = 1 := HZ.out.trans (if_pos (.inr rfl))
      subst e1
      go_wp2_with fail
      go_ret
      exact ⟨rfl, HB2.out⟩
    · have e1 : z = if dn then 170 else 0 := HZ.out.trans (if_neg (by simp))
      have x2 := L2.out.cell (j := 2) rfl
      clear HZ
      cases dn
      · have e2 : z = 0 := e1
        clear e1
        subst e2
        go_wp2_with fail
        go_ret
        exact ⟨rfl, HB2.out⟩
      · have e2 : z = 170 := e1
        clear e1
        subst e2
        go_wp2_with fail
        go_ret
        exact ⟨rfl, HB2.out⟩
/-- A batch in its block, its rows its own. -/
structure BaAt (w0 : World) (b : Nat) (A : Option Addr) (n c : Nat) (B : Option Addr) (m d : Nat) (dn : Bool) (C : Option Addr) (g e : Nat) (cs fs : List Cl) (w : World) : Prop where
  bt : Lies b #[.slice A n c, .slice B m d, .bool dn, .slice C g e] 60 w
  oa : w.ownsRow w0.heap.size 43 2 (.slice A n c) n (clc cs)
  ob : w.ownsRow w0.heap.size 43 2 (.slice B m d) m (clc fs)
  ap : ∀ k, (Value.slice A n c).ownBlock = some k → (Value.slice B m d).ownBlock ≠ some k
  kb : w0.heap.size ≤ b
  below : Below w0.heap.size w0 w
theorem BaAt.na {w0 : World} {b : Nat} {A : Option Addr} {n c : Nat} {B : Option Addr} {m d : Nat} {dn : Bool} {C : Option Addr} {g e : Nat} {cs fs : List Cl} {w : World} (h : BaAt w0 b A n c B m d dn C g e cs fs w) : (Value.slice A n c).ownBlock ≠ some b := Gen.own_apart h.oa h.bt (by decide)
theorem BaAt.nb {w0 : World} {b : Nat} {A : Option Addr} {n c : Nat} {B : Option Addr} {m d : Nat} {dn : Bool} {C : Option Addr} {g e : Nat} {cs fs : List Cl} {w : World} (h : BaAt w0 b A n c B m d dn C g e cs fs w) : (Value.slice B m d).ownBlock ≠ some b := Gen.own_apart h.ob h.bt (by decide)
theorem BaAt.next {w0 : World} {b : Nat} {A : Option Addr} {n c : Nat} {B : Option Addr} {m d : Nat} {dn : Bool} {C : Option Addr} {g e : Nat} {cs fs : List Cl} {w w' : World} (h : BaAt w0 b A n c B m d dn C g e cs fs w) (hb : Below w.heap.size w w') : BaAt w0 b A n c B m d dn C g e cs fs w' :=
  ⟨h.bt.below hb, own_upO h.oa hb, own_upO h.ob hb, h.ap, h.kb, below_next h.below hb⟩
theorem ckNext_write {w0 : World} {b : Nat} {A : Option Addr} {n c : Nat} {B : Option Addr} {m d : Nat} {dn : Bool} {C : Option Addr} {g e : Nat} {cs fs : List Cl} {w : World} (h : BaAt w0 b A n c B m d dn C (g + 1) e cs fs w) :
    Calls Try.prog 36 #[.pointer (some ⟨b, 0, none⟩)] w fun e w' => e = .returned (.func (.func 27) #[.pointer (some ⟨b, 0, none⟩)] #[]) ∧ w' = w := by
  have x3 := h.bt.cell (j := 3) rfl
  have hmf : ∀ (fn : Fn) (first cap : Array Value) (w : World), (Instr.makeFunc fn first cap).run Try.prog w = .ok (.func fn first cap) w := fun _ _ _ _ => rfl
  have hg : decide ((0 : Int) < ((g + 1 : Nat) : Int)) = true := decide_eq_true (by omega)
  clear h
  go_enter Try.func36, Try.ntmps36
  go_wp2_with fail
  go_ret
  exact ⟨rfl, rfl⟩
theorem ckNext_commit {w0 : World} {b : Nat} {A : Option Addr} {n c : Nat} {B : Option Addr} {m d : Nat} {dn : Bool} {C : Option Addr} {e : Nat} {cs fs : List Cl} {w : World} (h : BaAt w0 b A n c B m d dn C 0 e cs fs w) :
    Calls Try.prog 36 #[.pointer (some ⟨b, 0, none⟩)] w fun e w' => e = .returned (.func (.func 29) #[.pointer (some ⟨b, 0, none⟩)] #[]) ∧ w' = w := by
  have x3 := h.bt.cell (j := 3) rfl
  have hmf : ∀ (fn : Fn) (first cap : Array Value) (w : World), (Instr.makeFunc fn first cap).run Try.prog w = .ok (.func fn first cap) w := fun _ _ _ _ => rfl
  clear h
  go_enter Try.func36, Try.ntmps36
  go_wp2_with fail
  go_ret
  exact ⟨rfl, rfl⟩
/-- A store, an error, just these; what was stays. -/
def TellsSt (v : Value) (z : Int) (w : World) (e : Ending) (w' : World) : Prop := e = .returned (.tuple #[v, .int .i64 z]) ∧ Below w.heap.size w w'
theorem end_ret {w wF : World} {R n c m d : Nat} {A B : Option Addr} {dn : Bool} {z : Int} {act : Act} (ht : act.tmps.getD 4 undef = .pointer (some ⟨R, 0, none⟩)) (he : act.tmps.getD 5 undef = .int .i64 z) (hd : act.defers = [])
    (hL : Lies R #[.slice A n c, .slice B m d, .bool dn] 24 wF) (hB : Below w.heap.size w wF) :
    bodyPost Try.prog Try.f26 (TellsSt (srV A n c B m d dn) z w) .ret act wF := by
  have c0 := hL.cell (j := 0) rfl
  have c1 := hL.cell (j := 1) rfl
  have c2 := hL.cell (j := 2) rfl
  refine bodyPost_ret (v := .tuple #[srV A n c B m d dn, .int .i64 z]) ?_ hd ⟨rfl, hB⟩
  have ht2 : act.tmps[4]?.getD undef = .pointer (some ⟨R, 0, none⟩) := by simpa using ht
  have he2 : act.tmps[5]?.getD undef = .int .i64 z := by simpa using he
  simp [results, Try.results26, go_sem, ht2, he2, c0, c1, c2]
theorem ckEnd_err (b : Value) (z : Int) (hz : z ≠ 0) (w : World) : Calls Try.prog 26 #[b, .int .i64 z] w (TellsSt (srV none 0 0 none 0 0 false) z w) := by
  have g1 : (z != 0) = true := nb hz
  have HB := Lib.hid (below_al (o := .cells #[.slice none 0 0, .slice none 0 0, .bool false] 24) (Below.refl w.heap.size w))
  have L := Lib.hid (Lies.new w #[.slice none 0 0, .slice none 0 0, .bool false] 24)
  clear hz
  go_enter Try.func26, Try.ntmps26
  go_upto_region 1 with fail
  obtain ⟨tb, htb⟩ : ∃ b, b = w.heap.size := ⟨_, rfl⟩
  have HT := Lib.hid htb
  obtain ⟨W, hW⟩ : ∃ W, W = w.alloc (.cells #[.slice none 0 0, .slice none 0 0, .bool false] 24) := ⟨_, rfl⟩
  rw [← hW] at L HB ⊢
  rw [← htb] at L ⊢
  clear hW htb
  have y0 := L.out.cell (j := 0) rfl; have y1 := L.out.cell (j := 1) rfl; have y2 := L.out.cell (j := 2) rfl
  have z0 := L.out.free 0; have z1 := L.out.free 1; have z2 := L.out.free 2
  go_wp2_with fail
  refine end_ret (R := tb) ?_ ?_ ?_ (lies_set3O L.out _ _ _) (below_set3O HB.out (by rw [HT.out]; exact Nat.le_refl _) _ _ _) <;> rfl
theorem ckEnd_ok {w0 : World} {b : Nat} {A : Option Addr} {n c : Nat} {B : Option Addr} {m d : Nat} {dn : Bool} {C : Option Addr} {g e : Nat} {cs fs : List Cl} {w : World} (h : BaAt w0 b A n c B m d dn C g e cs fs w) :
    Calls Try.prog 26 #[.pointer (some ⟨b, 0, none⟩), .int .i64 0] w (TellsSt (srV A n c B m d dn) 0 w) := by
  have HB := Lib.hid (below_al (o := .cells #[.slice none 0 0, .slice none 0 0, .bool false] 24) (Below.refl w.heap.size w))
  have L := Lib.hid (Lies.new w #[.slice none 0 0, .slice none 0 0, .bool false] 24)
  have LB := Lib.hid (h.bt.al (o := .cells #[.slice none 0 0, .slice none 0 0, .bool false] 24))
  clear h
  go_enter Try.func26, Try.ntmps26
  go_upto_region 1 with fail
  obtain ⟨tb, htb⟩ : ∃ b, b = w.heap.size := ⟨_, rfl⟩
  have HT := Lib.hid htb
  obtain ⟨W, hW⟩ : ∃ W, W = w.alloc (.cells #[.slice none 0 0, .slice none 0 0, .bool false] 24) := ⟨_, rfl⟩
  rw [← hW] at L LB HB ⊢
  rw [← htb] at L ⊢
  clear hW htb
  have x0 := LB.out.cell (j := 0) rfl; have x1 := LB.out.cell (j := 1) rfl; have x2 := LB.out.cell (j := 2) rfl
  have y0 := L.out.cell (j := 0) rfl; have y1 := L.out.cell (j := 1) rfl; have y2 := L.out.cell (j := 2) rfl
  have z0 := L.out.free 0; have z1 := L.out.free 1; have z2 := L.out.free 2
  go_wp2_with fail
  refine end_ret (R := tb) ?_ ?_ ?_ (lies_set3O L.out _ _ _) (below_set3O HB.out (by rw [HT.out]; exact Nat.le_refl _) _ _ _) <;> rfl
theorem BaAt.set_down {w0 : World} {b : Nat} {A : Option Addr} {n c : Nat} {B : Option Addr} {m d : Nat} {dn : Bool} {C : Option Addr} {g e : Nat} {cs fs : List Cl} {w : World} (h : BaAt w0 b A n c B m d dn C g e cs fs w) (x : Bool) : BaAt w0 b A n c B m d x C g e cs fs (w.setCell ⟨b, 2, none⟩ (.bool x)) :=
  ⟨by have := h.bt.set 2 (.bool x); simpa using this, own_setO h.oa _ h.na _, own_setO h.ob _ h.nb _, h.ap, h.kb, h.below.setCell (p := ⟨b, 2, none⟩) h.kb _⟩
def GivesFl (w0 : World) (b : Nat) (A : Option Addr) (n c : Nat) (B : Option Addr) (m d : Nat) (C : Option Addr) (g e : Nat) (cs fs : List Cl) (en : Ending) (w' : World) : Prop :=
  en = .returned (.tuple #[srV A n c B m d true, .int .i64 170]) ∧ BaAt w0 b A n c B m d true C g e cs fs w'
theorem fail_ret {w0 wF : World} {b : Nat} {A : Option Addr} {n c : Nat} {B : Option Addr} {m d : Nat} {C : Option Addr} {g e : Nat} {cs fs : List Cl} {R : Nat} {act : Act} (ht : act.tmps.getD 2 undef = .pointer (some ⟨R, 0, none⟩)) (he : act.tmps.getD 3 undef = .int .i64 170) (hd : act.defers = [])
    (hL : Lies R #[.slice A n c, .slice B m d, .bool true] 24 wF) (h : BaAt w0 b A n c B m d true C g e cs fs wF) :
    bodyPost Try.prog Try.f35 (GivesFl w0 b A n c B m d C g e cs fs) .ret act wF := by
  have c0 := hL.cell (j := 0) rfl
  have c1 := hL.cell (j := 1) rfl
  have c2 := hL.cell (j := 2) rfl
  refine bodyPost_ret (v := .tuple #[srV A n c B m d true, .int .i64 170]) ?_ hd ⟨rfl, h⟩
  have ht2 : act.tmps[2]?.getD undef = .pointer (some ⟨R, 0, none⟩) := by simpa using ht
  have he2 : act.tmps[3]?.getD undef = .int .i64 170 := by simpa using he
  simp [results, Try.results35, go_sem, ht2, he2, c0, c1, c2]
theorem lies_ne {w : World} {a b : Nat} {C D : Array Value} {T U : TypeId} (h : Lies a C T w) (k : Lies b D U w) (hT : T ≠ U) : a ≠ b := by
  intro e
  subst e
  have h2 : w.heap[a]? = some _ := h
  have h3 : w.heap[a]? = some _ := k
  rw [h2] at h3
  injection h3 with h3
  injection h3 with _ h3
  exact hT h3
theorem BaAt.set3 {w0 : World} {b : Nat} {A : Option Addr} {n c : Nat} {B : Option Addr} {m d : Nat} {dn : Bool} {C : Option Addr} {g e : Nat} {cs fs : List Cl} {w : World} (h : BaAt w0 b A n c B m d dn C g e cs fs w) {R : Nat} {D : Array Value} (hR : Lies R D 24 w) (hw : w0.heap.size ≤ R) (v0 v1 v2 : Value) : BaAt w0 b A n c B m d dn C g e cs fs (set3O w R v0 v1 v2) := by
  have na := Gen.own_apart h.oa hR (by decide)
  have nb := Gen.own_apart h.ob hR (by decide)
  have hne : b ≠ R := lies_ne h.bt hR (by decide)
  have hm : Mine (· = R) w (set3O w R v0 v1 v2) := ((Mine.set (M := (· = R)) w (a := ⟨R, 0, none⟩) v0 rfl).trans (Mine.set _ (M := (· = R)) (a := ⟨R, 1, none⟩) v1 rfl)).trans (Mine.set _ (M := (· = R)) (a := ⟨R, 2, none⟩) v2 rfl)
  exact ⟨hm.lies h.bt hne, hm.own h.oa (fun k hk e => na (by rw [← e]; exact hk)), hm.own h.ob (fun k hk e => nb (by rw [← e]; exact hk)), h.ap, h.kb, below_set3O h.below hw _ _ _⟩
theorem ckFail {w0 : World} {b : Nat} {A : Option Addr} {n c : Nat} {B : Option Addr} {m d : Nat} {dn : Bool} {C : Option Addr} {g e : Nat} {cs fs : List Cl} {w : World} (h : BaAt w0 b A n c B m d dn C g e cs fs w) :
    Calls Try.prog 35 #[.pointer (some ⟨b, 0, none⟩)] w (GivesFl w0 b A n c B m d C g e cs fs) := by
  have L := Lib.hid (Lies.new w #[.slice none 0 0, .slice none 0 0, .bool false] 24)
  have AT := Lib.hid (h.next (below_al (o := .cells #[.slice none 0 0, .slice none 0 0, .bool false] 24) (Below.refl w.heap.size w)))
  have HS := Lib.hid h.below.size
  clear h
  go_enter Try.func35, Try.ntmps35
  go_upto_region 1 with fail
  obtain ⟨tb, htb⟩ : ∃ b, b = w.heap.size := ⟨_, rfl⟩
  have HT := Lib.hid (show w0.heap.size ≤ tb by rw [htb]; exact HS.out)
  obtain ⟨W, hW⟩ : ∃ W, W = w.alloc (.cells #[.slice none 0 0, .slice none 0 0, .bool false] 24) := ⟨_, rfl⟩
  rw [← hW] at L AT ⊢
  rw [← htb] at L ⊢
  clear hW htb
  have HNE := Lib.hid (lies_ne AT.out.bt L.out (by decide))
  have f2 := AT.out.bt.free 2; have q2 := AT.out.bt.cell (j := 2) rfl
  have AD := Lib.hid (AT.out.set_down true)
  have LD := Lib.hid ((Mine.set (M := (· = b)) W (a := ⟨b, 2, none⟩) (.bool true) rfl).lies L.out HNE.out.symm)
  go_upto_region 2 with fail
  clear f2 q2
  obtain ⟨W5, hW5⟩ : ∃ W5, W5 = World.setCell W ⟨b, 2, none⟩ (.bool true) := ⟨_, rfl⟩
  rw [← hW5] at AD LD ⊢
  clear hW5
  have x0 := AD.out.bt.cell (j := 0) rfl; have x1 := AD.out.bt.cell (j := 1) rfl; have x2 := AD.out.bt.cell (j := 2) rfl
  have y0 := LD.out.cell (j := 0) rfl; have y1 := LD.out.cell (j := 1) rfl; have y2 := LD.out.cell (j := 2) rfl
  have z0 := LD.out.free 0; have z1 := LD.out.free 1; have z2 := LD.out.free 2
  go_wp2_with fail
  refine fail_ret (R := tb) ?_ ?_ ?_ (lies_set3O LD.out _ _ _) (AD.out.set3 LD.out HT.out _ _ _) <;> rfl
theorem ckWriteB_full {w0 : World} {b : Nat} {A : Option Addr} {n c : Nat} {B : Option Addr} {m d : Nat} {dn : Bool} {C : Option Addr} {g e : Nat} {cs fs : List Cl} {w : World} (h : BaAt w0 b A n c B m d dn C g e cs fs w) (hm : m = 64) :
    Calls Try.prog 27 #[.pointer (some ⟨b, 0, none⟩)] w fun e w' => e = .returned (.int .i64 3) ∧ w' = w := by
  have x1 := h.bt.cell (j := 1) rfl
  have g1 : ((m : Int) == (64 : Int)) = true := eq_b (by omega)
  clear h hm
  go_enter Try.func27, Try.ntmps27
  go_wp2_with fail
  go_ret
  exact ⟨rfl, rfl⟩
end So
end Go.Proofs.Ytpjgdpdgfchhkaa
