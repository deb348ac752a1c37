/- The code's Hold. -/
import Derived.Test.YtciagbeamphihaaMarkIns
import Derived.Test.YtciagbeamphihaaMarkPlace
import Derived.Test.YtciagbeamphihaaMarkIdle
namespace Go.Proofs.Ytciagbeamphihaa
open Go.RowKit
set_option linter.unusedVariables false
set_option maxRecDepth 8000
namespace Wm
/-- Holds in order: what the place says. -/
theorem place_has {hs : List Ho} {no : Int} {p : Nat} {is : Bool} (h : PlAt hs no p is) (hc : chain (-1) hs = true) : has hs no = is := by
  cases is with
  | true =>
    obtain ⟨x, hx, e⟩ := h.at_ rfl
    unfold has
    rw [List.any_eq_true]
    exact ⟨x, List.mem_of_getElem? hx, by simp [e]⟩
  | false =>
    unfold has
    rw [List.any_eq_false]
    intro x hx
    obtain ⟨k, hk⟩ := List.getElem?_of_mem hx
    have : x.no ≠ no := by
      by_cases hkp : k < p
      · have := h.lo hc k x hkp hk; omega
      · have := h.hi hc k x (by omega) hk
        simp only [Bool.false_eq_true, if_false] at this
        omega
    simpa using this
theorem ins_at : ∀ (xs : List Ho) (x : Ho) (p : Nat), p ≤ xs.length → (∀ k y, k < p → xs[k]? = some y → y.no < x.no) → (∀ k y, p ≤ k → xs[k]? = some y → x.no < y.no) → insH x xs = xs.take p ++ x :: xs.drop p
  | [], x, p, hp, _, _ => by simp [insH]
  | y :: r, x, 0, _, _, h2 => by
    have := h2 0 y (Nat.le_refl _) rfl
    unfold insH
    rw [if_pos this]; rfl
  | y :: r, x, p + 1, hp, h1, h2 => by
    have := h1 0 y (by omega) rfl
    unfold insH
    rw [if_neg (by omega), ins_at r x p (by simpa using hp) (fun k z hk hz => h1 (k + 1) z (by omega) (by simpa using hz)) (fun k z hk hz => h2 (k + 1) z (by omega) (by simpa using hz))]
    rfl
theorem set_at : ∀ (xs : List Ho) (x : Ho) (p : Nat) (y : Ho), xs[p]? = some y → y.no = x.no → (∀ k z, k < p → xs[k]? = some z → z.no < x.no) → (∀ k z, p < k → xs[k]? = some z → x.no < z.no) → insH x (without xs x.no) = xs.set p x
  | [], x, p, y, hp, _, _, _ => by simp at hp
  | z :: r, x, 0, y, hp, he, _, h2 => by
    simp only [List.getElem?_cons_zero, Option.some.injEq] at hp
    subst hp
    have hr : without r x.no = r := by
      unfold without
      rw [List.filter_eq_self]
      intro u hu
      obtain ⟨k, hk⟩ := List.getElem?_of_mem hu
      have := h2 (k + 1) u (by omega) (by simpa using hk)
      have : u.no ≠ x.no := by omega
      simpa using this
    have e : without (z :: r) x.no = r := by
      unfold without at hr ⊢
      rw [List.filter_cons, if_neg (by simp [he]), hr]
    rw [e]
    show insH x r = x :: r
    cases r with
    | nil => rfl
    | cons u r =>
      have := h2 1 u (by omega) rfl
      unfold insH
      rw [if_pos this]
  | z :: r, x, p + 1, y, hp, he, h1, h2 => by
    have h0 := h1 0 z (by omega) rfl
    have e : without (z :: r) x.no = z :: without r x.no := by
      unfold without
      rw [List.filter_cons, if_pos (by have : z.no ≠ x.no := by omega
                                       simpa using this)]
    rw [e]
    show insH x (z :: without r x.no) = z :: r.set p x
    unfold insH
    rw [if_neg (by omega), set_at r x p y (by simpa using hp) he (fun k u hk hu => h1 (k + 1) u (by omega) (by simpa using hu)) (fun k u hk hu => h2 (k + 1) u (by omega) (by simpa using hu))]
theorem del_at : ∀ (xs : List Ho) (no : Int) (p : Nat) (y : Ho), xs[p]? = some y → y.no = no → (∀ k z, k < p → xs[k]? = some z → z.no < no) → (∀ k z, p < k → xs[k]? = some z → no < z.no) → without xs no = xs.take p ++ xs.drop (p + 1)
  | [], no, p, y, hp, _, _, _ => by simp at hp
  | z :: r, no, 0, y, hp, he, _, h2 => by
    simp only [List.getElem?_cons_zero, Option.some.injEq] at hp
    subst hp
    have hr : without r no = r := by
      unfold without
      rw [List.filter_eq_self]
      intro u hu
      obtain ⟨k, hk⟩ := List.getElem?_of_mem hu
      have := h2 (k + 1) u (by omega) (by simpa using hk)
      have : u.no ≠ no := by omega
      simpa using this
    unfold without at hr ⊢
    rw [List.filter_cons, if_neg (by simp [he]), hr]
    rfl
  | z :: r, no, p + 1, y, hp, he, h1, h2 => by
    have h0 := h1 0 z (by omega) rfl
    have ih := del_at r no p y (by simpa using hp) he (fun k u hk hu => h1 (k + 1) u (by omega) (by simpa using hu)) (fun k u hk hu => h2 (k + 1) u (by omega) (by simpa using hu))
    unfold without at ih ⊢
    rw [List.filter_cons, if_pos (by have : z.no ≠ no := by omega
                                     simpa using this), ih]
    rfl
theorem place_above {hs : List Ho} {no : Int} {p : Nat} (h : PlAt hs no p true) (hc : chain (-1) hs = true) : ∀ k z, p < k → hs[k]? = some z → no < z.no := by
  intro k z hk hz
  obtain ⟨x, hx, e⟩ := h.at_ rfl
  have := chain_lt hc hk hx hz
  omega
/-- A hold of an own row: where it lies; laid anew. -/
theorem own_cellH2 {w : World} {K n c g : Nat} {l : List Ho} (h : w.ownsRow K 44 2 (.slice (some ⟨g, 0, none⟩) n c) n (hc l)) {i : Nat} {x : Ho} (hi : l[i]? = some x) :
    w.cell? ⟨g, i * 2, none⟩ = some (.int .i64 x.no) ∧ w.cell? ⟨g, i * 2 + 1, none⟩ = some (.int .i64 x.at_) ∧ w.frozen? ⟨g, i * 2, none⟩ = false ∧ w.frozen? ⟨g, i * 2 + 1, none⟩ = false := by
  have hl := (List.getElem?_eq_some_iff.1 hi).1
  have hn : l.length * 2 = n * 2 := by rw [← hc_len, h.1]
  refine ⟨?_, ?_, h.frozenAt _, h.frozenAt _⟩
  · rw [h.cellAt _ (by omega)]
    exact (fl_get hL (fun _ => rfl) (n := 2) (j := 0) hi (by omega)).trans rfl
  · rw [h.cellAt _ (by omega)]
    exact (fl_get hL (fun _ => rfl) (n := 2) (j := 1) hi (by omega)).trans rfl
theorem hc_set {l : List Ho} {i : Nat} {x : Ho} (hi : i < l.length) : ((hc l).set (i * 2) (.int .i64 x.no)).set (i * 2 + 1) (.int .i64 x.at_) = hc (l.set i x) := by
  have e : l = l.take i ++ l[i] :: l.drop (i + 1) := by rw [List.getElem_cons_drop, List.take_append_drop]
  have hl : (hc (l.take i)).length = i * 2 := by rw [hc_len, List.length_take]; omega
  have hs : l.set i x = l.take i ++ x :: l.drop (i + 1) := by
    rw [List.set_eq_take_append_cons_drop, if_pos hi]
  rw [hs]
  have e2 : hc l = hc (l.take i) ++ (.int .i64 l[i].no :: .int .i64 l[i].at_ :: hc (l.drop (i + 1))) := by
    conv => lhs; rw [e]
    rw [hc_app]; rfl
  rw [e2, List.set_append_right _ _ (by omega), List.set_append_right _ _ (by omega), hl, Nat.sub_self, show i * 2 + 1 - i * 2 = 1 by omega, hc_app]
  rfl
theorem own_setH2 {w : World} {K n c g : Nat} {l : List Ho} (h : w.ownsRow K 44 2 (.slice (some ⟨g, 0, none⟩) n c) n (hc l)) {i : Nat} (x : Ho) (hi : i < l.length) :
    ((w.setCell ⟨g, i * 2, none⟩ (.int .i64 x.no)).setCell ⟨g, i * 2 + 1, none⟩ (.int .i64 x.at_)).ownsRow K 44 2 (.slice (some ⟨g, 0, none⟩) n c) n (hc (l.set i x)) := by
  have h1 := (h.stored (i * 2) (.int .i64 x.no)).1
  have h2 := (h1.stored (i * 2 + 1) (.int .i64 x.at_)).1
  rwa [hc_set hi] at h2
set_option maxRecDepth 100000 in
set_option maxHeartbeats 4000000 in
theorem ckHold (m : Mk) (A : Option Addr) (c : Nat) (B : Option Addr) (d : Nat) (no t : Int) (w : World) (h : Has m A c B d w) : Calls Try.prog 20 #[mv m A c B d, .int .i64 no, .int .i64 t] w (GivesM (holdM m no t) w) := by
  have HR := Lib.hid (fun w' (hb : Below w.heap.size w w') => ckRight m A c B d w' (h.next hb))
  have S0 := Lib.hid (SeAt.start w m A c B d)
  have hway : (right m = false ∧ holdM m no t = (none_, 1)) ∨ (right m = true ∧ no < 0 ∧ holdM m no t = (none_, 1)) ∨ (right m = true ∧ ¬ no < 0) := by
    unfold holdM
    cases right m
    · left; exact ⟨rfl, rfl⟩
    · right
      by_cases h1 : no < 0
      · left; refine ⟨rfl, h1, ?_⟩; rw [decide_eq_false (by omega)]; rfl
      · right; exact ⟨rfl, h1⟩
  rcases hway with ⟨hr, e⟩ | ⟨hr, a1, e⟩ | ⟨hr, a1⟩
  · have HO := Lib.hid e
    rw [hr] at HR
    clear h hr e
    go_enter Try.func20, Try.ntmps20
    go_wp2_with fail
    refine (HR.out _ S0.out.below).mono ?_
    rintro e w1 ⟨rfl, hb1⟩
    have S1 := Lib.hid (S0.out.next hb1)
    obtain ⟨⟨r0, r1, r2⟩, f0, f1, f2⟩ := S1.out.frees
    obtain ⟨z0, z1, z2⟩ := S1.out.ma.cells
    clear hb1
    go_wp2_with fail
    obtain ⟨d1, d2⟩ := S1.out.none
    rw [HO.out]
    exact holdC_ret (o := (none_, 1)) (A := none) (c := 0) (B := none) (d := 0) rfl rfl rfl d1 (Has.zero _) d2
  · have HO := Lib.hid e
    rw [hr] at HR
    clear h hr e
    go_enter Try.func20, Try.ntmps20
    go_wp2_with fail
    refine (HR.out _ S0.out.below).mono ?_
    rintro e w1 ⟨rfl, hb1⟩
    have S1 := Lib.hid (S0.out.next hb1)
    obtain ⟨⟨r0, r1, r2⟩, f0, f1, f2⟩ := S1.out.frees
    obtain ⟨z0, z1, z2⟩ := S1.out.ma.cells
    clear hb1
    go_wp2_with fail
    obtain ⟨d1, d2⟩ := S1.out.none
    rw [HO.out]
    exact holdC_ret (o := (none_, 1)) (A := none) (c := 0) (B := none) (d := 0) rfl rfl rfl d1 (Has.zero _) d2
  · obtain ⟨⟨hl0, hl8, hl32⟩, _, _, hch⟩ := (right_iff m).1 hr
    have HC := Lib.hid (fun w' (hb : Below w.heap.size w w') => ckCopied m A c B d w' (h.next hb) (by omega) (by omega))
    have HCL := Lib.hid (fun w' => ckClamp t w')
    obtain ⟨ct, hct⟩ : ∃ ct, ct = clamp t := ⟨_, rfl⟩
    have HO := Lib.hid (show holdM m no t = (if 32 < (insH ⟨no, ct⟩ (without m.holds no)).length then (none_, 3) else (⟨m.ins, insH ⟨no, ct⟩ (without m.holds no), m.out⟩, 0)) from by
      unfold holdM
      rw [if_pos (by rw [hr, decide_eq_true (by omega)]; rfl), ← hct])
    rw [← hct] at HCL
    have HCH := Lib.hid hch
    rw [hr] at HR
    have HL := Lib.hid hl32
    clear h hr hct hch hl8 hl0 hl32
    go_enter Try.func20, Try.ntmps20
    go_wp2_with fail
    refine (HR.out _ S0.out.below).mono ?_
    rintro e w1 ⟨rfl, hb1⟩
    have S1 := Lib.hid (S0.out.next hb1)
    obtain ⟨z0, z1, z2⟩ := S1.out.ma.cells
    clear hb1
    go_wp2_with fail
    refine (HC.out _ S1.out.below).mono ?_
    rintro e w2 ⟨A2, c2, B2, d2, rfl, fr2, hb2⟩
    have S2 := Lib.hid (S1.out.next hb2)
    have C3 := Lib.hid (CpAt.start S1.out fr2 hb2)
    clear z0 z1 z2 hb2 fr2
    obtain ⟨z0, z1, z2⟩ := S2.out.ma.cells
    have f0 := Lies.free S2.out.ma 0
    have f1 := Lies.free S2.out.ma 1
    have f2 := Lies.free S2.out.ma 2
    go_wp2_with (with_reducible refine hold_at 23 rfl ?_)
    refine hold_out ?_
    obtain ⟨w3, hw3⟩ : ∃ w3, w3 = setM3 w2 w.heap.size (.slice A2 m.ins.length c2) (.slice B2 m.holds.length d2) m.out := ⟨_, rfl⟩
    rw [← hw3] at C3
    unfold setM3 at hw3
    rw [← hw3]
    clear hw3 z0 z1 z2 f0 f1 f2
    obtain ⟨z0, z1, z2⟩ := C3.out.ma.cells
    have hq : w.heap.size < w3.heap.size := lt_of_block C3.out.ma
    go_wp2_with fail
    refine (HCL.out _).mono ?_
    rintro e w4 ⟨rfl, rfl⟩
    have C5 := Lib.hid (C3.out.next (al_below w4 (.cells (hoC ⟨no, ct⟩) 44)))
    have H5 := Lib.hid (show Lies w4.heap.size (hoC ⟨no, ct⟩) 44 (w4.alloc (.cells (hoC ⟨no, ct⟩) 44)) from Lies.new w4 _ _)
    have HP := Lib.hid (fun w' (h : Row w' B2 (hc m.holds)) => ckPlace m.holds no B2 d2 w' h (by have := HL.out; omega))
    go_wp2_with fail
    refine (HP.out _ (Has.of_own C5.out.fr.i C5.out.fr.h).rh).mono ?_
    rintro e w6 ⟨p, is, rfl, hpl, hb6⟩
    have C6 := Lib.hid (C5.out.next hb6)
    have H6 := Lib.hid ((hb6.block _ (lt_of_block H5.out)).trans H5.out)
    have H6 := Lib.hid (show Lies w4.heap.size (hoC ⟨no, ct⟩) 44 w6 from H6.out)
    have HPL := Lib.hid hpl
    have hh := place_has hpl HCH.out
    clear hb6 hpl z0 z1 z2 hq
    obtain ⟨z0, z1, z2⟩ := C6.out.ma.cells
    have hq : w.heap.size < w6.heap.size := lt_of_block C6.out.ma
    have hq4 : w4.heap.size < w6.heap.size := lt_of_block H6.out
    have hq5 : ¬ w4.heap.size = w.heap.size := by have := lt_of_block C3.out.ma; omega
    have k0 := H6.out.cell (j := 0) rfl
    have k1 := H6.out.cell (j := 1) rfl
    have r0 := C6.out.res.cell (j := 0) rfl
    have r1 := C6.out.res.cell (j := 1) rfl
    have r2 := C6.out.res.cell (j := 2) rfl
    have f0 := C6.out.res.free 0
    have f1 := C6.out.res.free 1
    have f2 := C6.out.res.free 2
    cases is with
    | true =>
      obtain ⟨x, hx, hxn⟩ := HPL.out.at_ rfl
      have hpn : p < m.holds.length := (List.getElem?_eq_some_iff.1 hx).1
      have hset := set_at m.holds ⟨no, ct⟩ p x hx hxn (HPL.out.lo HCH.out) (place_above HPL.out HCH.out)
      obtain ⟨us, hus⟩ : ∃ us, us = m.holds.set p (⟨no, ct⟩ : Ho) := ⟨_, rfl⟩
      have hL : m.holds.length = us.length := by rw [hus, List.length_set]
      have hO : holdM m no t = (⟨m.ins, us, m.out⟩, 0) := by
        rw [HO.out, show insH (⟨no, ct⟩ : Ho) (without m.holds no) = us from hset.trans hus.symm, if_neg (by rw [← hL]; have := HL.out; omega)]
      obtain ⟨g, rfl, hgK, hgw⟩ := own_at C6.out.fr.h (by omega)
      have hA := own_setH2 C6.out.fr.h (⟨no, ct⟩ : Ho) hpn
      rw [← hus] at hA
      have HA := Lib.hid hA
      have HOO := Lib.hid hO
      have HLL := Lib.hid hL
      have HK := Lib.hid hgK
      obtain ⟨y0, y1, y2, y3⟩ := own_cellH2 C6.out.fr.h hx
      have hne : ¬ w.heap.size = g := by omega
      have hne2 : ¬ w.heap.size + 1 = g := by omega
      have hp64 : (p : Int) < m.holds.length := by omega
      clear hA hO hL hus hset hx hxn hgK hh HO
      go_wp2_with fail
      rw [HOO.out]
      have hL := HLL.out
      have hA := HA.out
      rw [hL] at hA ⊢
      obtain ⟨t1, t2, t3⟩ := fin_own (m := ⟨m.ins, us, m.out⟩) ((C6.out.res.other hne2 (p * 2) (.int .i64 no)).other hne2 (p * 2 + 1) (.int .i64 ct))
        (own_set (own_set C6.out.fr.i ⟨g, p * 2, none⟩ (fun e => C6.out.fr.apart g e rfl) (.int .i64 no)) ⟨g, p * 2 + 1, none⟩ (fun e => C6.out.fr.apart g e rfl) (.int .i64 ct)) hA
        ((C6.out.below.setCell (p := ⟨g, p * 2, none⟩) (by have := HK.out; show w.heap.size ≤ g; omega) (.int .i64 no)).setCell (p := ⟨g, p * 2 + 1, none⟩) (by have := HK.out; show w.heap.size ≤ g; omega) (.int .i64 ct))
      exact holdC_ret (o := (⟨m.ins, us, m.out⟩, 0)) rfl rfl rfl t1 t2 t3
    | false =>
      have hw := without_none hh
      have hins := ins_at m.holds ⟨no, ct⟩ p HPL.out.le (HPL.out.lo HCH.out) (fun k z hk hz => by
        have := HPL.out.hi HCH.out k z hk hz
        simpa using this)
      by_cases hfull : m.holds.length = 32
      · have hO : holdM m no t = (none_, 3) := by
          rw [HO.out, hw, insH_len, if_pos (by omega)]
        have HOO := Lib.hid hO
        have hb32 : ((m.holds.length : Int) == 32) = true := eq_b (by omega)
        clear hO hw hins hh HO
        go_wp2_with fail
        rw [HOO.out]
        obtain ⟨d1, d2⟩ : Lies (w.heap.size + 1) (mkC (.slice none 0 0) (.slice none 0 0) 0) 25 (setM3 w6 (w.heap.size + 1) (.slice none 0 0) (.slice none 0 0) 0) ∧ Below w.heap.size w (setM3 w6 (w.heap.size + 1) (.slice none 0 0) (.slice none 0 0) 0) :=
          ⟨lies_setM3 C6.out.res _ _ _, below_setM3 C6.out.below (by omega) _ _ _⟩
        exact holdC_ret (o := (none_, 3)) (A := none) (c := 0) (B := none) (d := 0) rfl rfl rfl d1 (Has.zero _) d2
      · obtain ⟨us, hus⟩ : ∃ us, us = m.holds.take p ++ (⟨no, ct⟩ : Ho) :: m.holds.drop p := ⟨_, rfl⟩
        have hpn : p ≤ m.holds.length := HPL.out.le
        have hL : m.holds.length + 1 = us.length := by rw [hus, ← hins, insH_len]
        have hO : holdM m no t = (⟨m.ins, us, m.out⟩, 0) := by
          rw [HO.out, hw, hins, ← hus, if_neg (by rw [← hL]; have := HL.out; omega)]
        have hb32 : ((m.holds.length : Int) == 32) = false := ne_b (by omega)
        have hv : ∀ g, (Value.slice B2 m.holds.length d2).ownBlock = some g → w.heap.size + 2 ≤ g ∧ g < w6.heap.size := fun g hg => C6.out.fr.h.lt g hg
        have HV := Lib.hid hv
        have hIns := ckInsert m.holds ⟨no, ct⟩ B2 d2 (w.heap.size + 2) w6.heap.size p (w6.alloc (.cells (hoC ⟨no, ct⟩) 44)) (own_up C6.out.fr.h (al_below _ _)) (Lies.new w6 _ _) (by have := HL.out; omega) hpn
          (by have := lt_of_block C6.out.res; have := (al_below w6 (.cells (hoC ⟨no, ct⟩) 44)).size; omega) (fun g hg => by have := hv g hg; omega)
        unfold GivesIns at hIns
        rw [← hus] at hIns
        have HIN := Lib.hid hIns
        have C7 := Lib.hid (C6.out.next (al_below w6 (.cells (hoC ⟨no, ct⟩) 44)))
        have HOO := Lib.hid hO
        have HLL := Lib.hid hL
        have hp64 : (p : Int) ≤ m.holds.length := by omega
        clear hO hw hins hh hL hIns hv HO hus
        go_wp2_with fail
        refine HIN.out.mono ?_
        rintro e w8 ⟨A8, c8, rfl, ho8, hm8, hv8⟩
        have M8 := Lib.hid (hm8.lies C7.out.ma (fun hk => by have := HV.out _ hk; omega))
        have R8 := Lib.hid (hm8.lies C7.out.res (fun hk => by have := HV.out _ hk; omega))
        have I8 := Lib.hid (Mine.own C7.out.fr.i hm8 (fun k hk => C7.out.fr.apart k hk))
        have B8 := Lib.hid (Mine.below C7.out.below hm8 (fun k hk => by have := HV.out k hk; omega) C7.out.below.size)
        have O8 := Lib.hid ho8
        clear ho8 hm8 hv8 z0 z1 z2 r0 r1 r2 f0 f1 f2 k0 k1 hq hq4
        have z0 := M8.out.cell (j := 0) rfl
        have z1 := M8.out.cell (j := 1) rfl
        have z2 := M8.out.cell (j := 2) rfl
        have e1 := M8.out.free 1
        have r0 := R8.out.cell (j := 0) rfl
        have r1 := R8.out.cell (j := 1) rfl
        have r2 := R8.out.cell (j := 2) rfl
        have f0 := R8.out.free 0
        have f1 := R8.out.free 1
        have f2 := R8.out.free 2
        go_wp2_with fail
        rw [HOO.out]
        have hL := HLL.out
        have o8 := O8.out
        rw [hL] at o8 ⊢
        have hne : w.heap.size + 1 ≠ w.heap.size := by omega
        obtain ⟨t1, t2, t3⟩ := fin_own (wE := w8.setCell ⟨w.heap.size, 1, none⟩ (.slice A8 us.length c8)) (m := ⟨m.ins, us, m.out⟩) (R8.out.other hne 1 (.slice A8 us.length c8))
          (own_set I8.out ⟨w.heap.size, 1, none⟩ (fun e => by have := (I8.out.lt _ e).1; simp only at this; omega) (.slice A8 us.length c8))
          (own_set o8 ⟨w.heap.size, 1, none⟩ (fun e => by have := (o8.lt _ e).1; simp only at this; omega) (.slice A8 us.length c8))
          (B8.out.setCell (p := ⟨w.heap.size, 1, none⟩) (Nat.le_refl _) (.slice A8 us.length c8))
        exact holdC_ret (o := (⟨m.ins, us, m.out⟩, 0)) rfl rfl rfl t1 t2 t3
end Wm
end Go.Proofs.Ytciagbeamphihaa
