/- The code's begin. -/
import Derived.Test.YtpjgdpdgfchhkaaStoreCg
namespace Go.Proofs.Ytpjgdpdgfchhkaa
open Go.ChangeShapes Go.WideShapes Go.ChangeAt Go.RowKit
set_option linter.unusedVariables false
set_option maxRecDepth 8000
namespace So
open Gen (TellsB TellsI row_one flat_len flat_get Mine)
def GivesNo (z : Int) (w : World) (en : Ending) (w' : World) : Prop := en = .returned (.tuple #[.pointer none, .int .i64 z]) ∧ Below w.heap.size w w'
def GivesBg (n m : Nat) (dn : Bool) (C : Option Addr) (g e : Nat) (cs fs : List Cl) (w : World) (en : Ending) (w' : World) : Prop :=
  ∃ b A c B d, en = .returned (.tuple #[.pointer (some ⟨b, 0, none⟩), .int .i64 0]) ∧ BaAt w b A n c B m d dn C g e cs fs w'
theorem ckBegin_no (cs fs xs : List Cl) (n m g : Nat) (dn : Bool) (r q : Bool) (hn : n = cs.length) (hm : m = fs.length) (hg : g = xs.length) (hr : r = rightS ⟨cs, fs, dn⟩) (hq : q = xs.all mayB) (z : Int) (hz : z = openO r q dn) (hz0 : z ≠ 0) (A : Option Addr) (c : Nat) (B : Option Addr) (d : Nat) (C : Option Addr) (e : Nat) (w : World) (hA : Row w A (clc cs)) (hB : Row w B (clc fs)) (hC : Row w C (clc xs)) (hl : n ≤ 100000) (hl2 : m ≤ 100000) (hl3 : g ≤ 100000) :
    Calls Try.prog 25 #[srV A n c B m d dn, .slice C g e] w (GivesNo z w) := by
  have hb0 := below_al (o := .cells (srC A n c B m d dn) 24) (Below.refl w.heap.size w)
  have HOP := Lib.hid (fun w' (hb : Below w.heap.size w w') => ckOpen cs fs xs n m g dn r q hn hm hg hr hq z hz A c B d C e w' (hA.below hb) (hB.below hb) (hC.below hb) (by omega) (by omega) (by omega))
  have g1 : (z != 0) = true := nb hz0
  have HB := Lib.hid hb0
  have L := Lib.hid (Lies.new w (srC A n c B m d dn) 24)
  clear hA hB hC hn hm hg hr hq hz hb0 hz0 hl hl2 hl3
  simp only [srC] at L HB
  go_enter Try.func25, Try.ntmps25
  go_upto_region 1 with fail
  obtain ⟨tb, htb⟩ : ∃ b, b = w.heap.size := ⟨_, rfl⟩
  obtain ⟨W, hW⟩ : ∃ W, W = w.alloc (.cells #[.slice A n c, .slice B m d, .bool dn] 24) := ⟨_, rfl⟩
  rw [← hW] at L HB ⊢
  rw [← htb] at L ⊢
  clear hW htb
  have x0 := L.out.cell (j := 0) rfl; have x1 := L.out.cell (j := 1) rfl; have x2 := L.out.cell (j := 2) rfl
  go_wp2_with fail
  refine (HOP.out _ HB.out).mono ?_
  rintro e w1 ⟨rfl, hb1⟩
  have HB1 := Lib.hid (below_next HB.out hb1)
  clear hb1
  go_wp2_with fail
  go_ret2
  exact ⟨rfl, HB1.out⟩
/-- The store with rows of its own, ahead of the batch. -/
structure BgAt (w : World) (tb : Nat) (A : Option Addr) (n c : Nat) (B : Option Addr) (m d : Nat) (dn : Bool) (cs fs : List Cl) (w1 : World) : Prop where
  st : Lies tb #[.slice A n c, .slice B m d, .bool dn] 24 w1
  oa : w1.ownsRow w.heap.size 43 2 (.slice A n c) n (clc cs)
  ob : w1.ownsRow w.heap.size 43 2 (.slice B m d) m (clc fs)
  below : Below w.heap.size w w1
theorem BgAt.of {w : World} {tb : Nat} {A0 : Option Addr} {c0 : Nat} {B0 : Option Addr} {d0 : Nat} {A : Option Addr} {n c : Nat} {B : Option Addr} {m d : Nat} {dn : Bool} {cs fs : List Cl} {w1 : World} (h : StAt w tb A0 n c0 B0 m d0 dn w1) (ht : w.heap.size ≤ tb)
    (oa : w1.ownsRow w.heap.size 43 2 (.slice A n c) n (clc cs)) (ob : w1.ownsRow w.heap.size 43 2 (.slice B m d) m (clc fs)) :
    BgAt w tb A n c B m d dn cs fs ((w1.setCell ⟨tb, 0, none⟩ (.slice A n c)).setCell ⟨tb, 1, none⟩ (.slice B m d)) :=
  ⟨by have := (h.st.set 0 (.slice A n c)).set 1 (.slice B m d); simpa using this,
   own_setO (own_setO oa _ (Gen.own_apart oa h.st (by decide)) _) _ (Gen.own_apart oa h.st (by decide)) _, own_setO (own_setO ob _ (Gen.own_apart ob h.st (by decide)) _) _ (Gen.own_apart ob h.st (by decide)) _,
   (h.below.setCell (p := ⟨tb, 0, none⟩) ht _).setCell (p := ⟨tb, 1, none⟩) ht _⟩
theorem BgAt.batch {w : World} {tb : Nat} {A : Option Addr} {n c : Nat} {B : Option Addr} {m d : Nat} {dn : Bool} {cs fs : List Cl} {w1 : World} (h : BgAt w tb A n c B m d dn cs fs w1) (ap : ∀ k, (Value.slice A n c).ownBlock = some k → (Value.slice B m d).ownBlock ≠ some k) (C : Option Addr) (g e : Nat) :
    BaAt w w1.heap.size A n c B m d dn C g e cs fs (w1.alloc (.cells #[.slice A n c, .slice B m d, .bool dn, .slice C g e] 60)) := by
  have hb := below_al (o := .cells #[.slice A n c, .slice B m d, .bool dn, .slice C g e] 60) (Below.refl w1.heap.size w1)
  exact ⟨Lies.new w1 _ _, own_upO h.oa hb, own_upO h.ob hb, ap, h.below.size, below_next h.below hb⟩
set_option maxRecDepth 100000 in
set_option maxHeartbeats 4000000 in
theorem ckBegin_ok (cs fs xs : List Cl) (n m g : Nat) (dn : Bool) (r q : Bool) (hn : n = cs.length) (hm : m = fs.length) (hg : g = xs.length) (hr : r = rightS ⟨cs, fs, dn⟩) (hq : q = xs.all mayB) (hz : 0 = openO r q dn) (A : Option Addr) (c : Nat) (B : Option Addr) (d : Nat) (C : Option Addr) (e : Nat) (w : World) (hA : Row w A (clc cs)) (hB : Row w B (clc fs)) (hC : Row w C (clc xs)) (hl : n ≤ 100000) (hl2 : m ≤ 100000) (hl3 : g ≤ 100000) :
    Calls Try.prog 25 #[srV A n c B m d dn, .slice C g e] w (GivesBg n m dn C g e cs fs w) := by
  have hb0 := below_al (o := .cells (srC A n c B m d dn) 24) (Below.refl w.heap.size w)
  have HOP := Lib.hid (fun w' (hb : Below w.heap.size w w') => ckOpen cs fs xs n m g dn r q hn hm hg hr hq 0 hz A c B d C e w' (hA.below hb) (hB.below hb) (hC.below hb) (by omega) (by omega) (by omega))
  have HKA := Lib.hid (fun w' (hb : Below w.heap.size w w') => ckClone cs n hn A c w' (hA.below hb) hl)
  have HKB := Lib.hid (fun w' (hb : Below w.heap.size w w') => ckClone fs m hm B d w' (hB.below hb) hl2)
  have T0 : Hid (StAt w w.heap.size A n c B m d dn (w.alloc (.cells (srC A n c B m d dn) 24))) := Lib.hid ⟨Lies.new w _ _, hb0⟩
  have HTB := Lib.hid (Nat.le_refl w.heap.size)
  clear hA hB hC hn hm hg hr hq hz hb0 hl hl2 hl3
  simp only [srC] at T0
  go_enter Try.func25, Try.ntmps25
  go_upto_region 1 with fail
  obtain ⟨tb, htb⟩ : ∃ b, b = w.heap.size := ⟨_, rfl⟩
  obtain ⟨W, hW⟩ : ∃ W, W = w.alloc (.cells #[.slice A n c, .slice B m d, .bool dn] 24) := ⟨_, rfl⟩
  have HT := Lib.hid (show w.heap.size ≤ tb by rw [htb]; exact Nat.le_refl _)
  rw [← hW] at T0 ⊢
  rw [← htb] at T0 ⊢
  clear hW htb HTB
  have x0 := T0.out.st.cell (j := 0) rfl; have x1 := T0.out.st.cell (j := 1) rfl; have x2 := T0.out.st.cell (j := 2) rfl
  go_wp2_with fail
  refine (HOP.out _ T0.out.below).mono ?_
  rintro e1 w1 ⟨rfl, hb1⟩
  have T1 := Lib.hid (T0.out.next hb1)
  have T := Lib.hid (T1.out.next (below_drewOf (Below.refl w1.heap.size w1)))
  clear hb1 x0 x1 x2 HOP T0
  have x0 := T1.out.st.cell (j := 0) rfl; have x1 := T1.out.st.cell (j := 1) rfl
  go_upto_region 4 with fail
  go_region_with (first
    | (go_at_call 34; refine (HKA.out _ T.out.below).mono ?_; rintro e5 w5 ⟨Ai, ci, rfl, oi, hb5⟩; (try have OH := Lib.hid (own_upO OH.out hb5)); have OI := Lib.hid (own_baseO oi (show w.heap.size ≤ _ from T.out.below.size)); have LI := Lib.hid oi.lt; have T := Lib.hid (T.out.next hb5); have x0 := T.out.st.cell (j := 0) rfl; have x1 := T.out.st.cell (j := 1) rfl; have f0 := T.out.st.free 0; have f1 := T.out.st.free 1; clear oi hb5)
    | (go_at_call 34; refine (HKB.out _ T.out.below).mono ?_; rintro e5 w5 ⟨Ah, ch, rfl, oh, hb5⟩; (try have OI := Lib.hid (own_upO OI.out hb5)); have OH := Lib.hid (own_baseO oh (show w.heap.size ≤ _ from T.out.below.size)); have LH := Lib.hid oh.lt; have T := Lib.hid (T.out.next hb5); have x0 := T.out.st.cell (j := 0) rfl; have x1 := T.out.st.cell (j := 1) rfl; have f0 := T.out.st.free 0; have f1 := T.out.st.free 1; clear oh hb5))
  all_goals (
    have HAP : Hid (∀ k, (Value.slice Ai n ci).ownBlock = some k → (Value.slice Ah m ch).ownBlock ≠ some k) := Lib.hid (fun k h1 h2 => by have a := LI.out k h1; have b := LH.out k h2; omega)
    have BG := Lib.hid (BgAt.of T.out HT.out OI.out OH.out)
    obtain ⟨W7, hW7⟩ : ∃ W, W = (World.setCell w5 ⟨tb, 0, none⟩ (.slice Ai n ci)).setCell ⟨tb, 1, none⟩ (.slice Ah m ch) := ⟨_, rfl⟩
    rw [← hW7] at BG ⊢
    clear hW7 x0 x1 f0 f1 T OI OH LI LH HKA HKB
    have y0 := BG.out.st.cell (j := 0) rfl; have y1 := BG.out.st.cell (j := 1) rfl; have y2 := BG.out.st.cell (j := 2) rfl
    have BA := Lib.hid (BG.out.batch HAP.out C g e)
    go_wp2_with fail
    go_ret2
    exact ⟨W7.heap.size, Ai, ci, Ah, ch, rfl, BA.out⟩)
end So
end Go.Proofs.Ytpjgdpdgfchhkaa
