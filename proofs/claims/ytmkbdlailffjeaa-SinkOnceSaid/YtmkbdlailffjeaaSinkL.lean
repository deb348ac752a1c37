/- The reference's Like of two sinks. -/
import Derived.Test.YtmkbdlailffjeaaSinkM
namespace Go.Proofs.Ytmkbdlailffjeaa
open Go.ChangeShapes Go.WideShapes Go.ChangeAt Go.RowKit
set_option linter.unusedVariables false
set_option maxRecDepth 8000
namespace Sk
open Gen (TellsB row_one flat_len flat_get Mine)
/-- The blocks of Like. -/
structure LkAt (w0 : World) (b0 b1 : Nat) (C C' : Array Value) (w : World) : Prop where
  l0 : Lies b0 C 25 w
  l1 : Lies b1 C' 25 w
  below : Below w0.heap.size w0 w
theorem LkAt.next {w0 : World} {b0 b1 : Nat} {C C' : Array Value} {w w' : World} (h : LkAt w0 b0 b1 C C' w) (hb : Below w.heap.size w w') : LkAt w0 b0 b1 C C' w' := ⟨h.l0.below hb, h.l1.below hb, below_next h.below hb⟩
/-- What a round's comparison reads. -/
structure LqAt (w0 : World) (b0 b1 : Nat) (C C' : Array Value) (p0 p1 q0 q1 : Addr) (N : Int) (vx vy : Value) (A A' : Option Addr) (l : List Re) (w : World) : Prop where
  lk : LkAt w0 b0 b1 C C' w
  x0 : w.cell? p0 = some (.int .i64 N)
  x1 : w.cell? p1 = some vx
  y0 : w.cell? q0 = some (.int .i64 N)
  y1 : w.cell? q1 = some vy
  r1 : Row w A (rec_ l)
  r2 : Row w A' (rec_ l)
theorem LqAt.next {w0 : World} {b0 b1 : Nat} {C C' : Array Value} {p0 p1 q0 q1 : Addr} {N : Int} {vx vy : Value} {A A' : Option Addr} {l : List Re} {w w' : World} (h : LqAt w0 b0 b1 C C' p0 p1 q0 q1 N vx vy A A' l w) (hb : Below w.heap.size w w') : LqAt w0 b0 b1 C C' p0 p1 q0 q1 N vx vy A A' l w' :=
  ⟨h.lk.next hb, Gen.cell_below h.x0 hb, Gen.cell_below h.x1 hb, Gen.cell_below h.y0 hb, Gen.cell_below h.y1 hb, h.r1.below hb, h.r2.below hb⟩
set_option maxRecDepth 100000 in
set_option maxHeartbeats 2000000 in
theorem rfLikeH (s : Si) (hB : Bd s) (sg sg' : List Sg) (no ns nu : Nat) (O : Option Addr) (cO : Nat) (S : Option Addr) (cS : Nat) (U : Option Addr) (cU : Nat) (O' : Option Addr) (cO' : Nat) (S' : Option Addr) (cS' : Nat) (U' : Option Addr) (cU' : Nat) (w : World) (h : RawS w s no ns nu O cO S cS U cU sg) (k : RawS w s no ns nu O' cO' S' cS' U' cU' sg') :
    Calls Try.prog 16 #[skV O no cO S ns cS s.last U nu cU, skV O' no cO' S' ns cS' s.last U' nu cU'] w (TellsB true w) := by
  have HH := Lib.hid h
  have HK := Lib.hid k
  have HBD := Lib.hid hB
  have HLO := Lib.hid (fun w' (hb : Below w.heap.size w w') => rfLikeRes s.op no h.lno (by rw [h.lno]; have := hB.o; omega) O O' cO cO' w' (h.ro.below hb) (k.ro.below hb))
  have HLU := Lib.hid (fun w' (hb : Below w.heap.size w w') => rfLikeRes s.out nu h.lnu (by rw [h.lnu]; have := hB.u; omega) U U' cU cU' w' (h.ru.below hb) (k.ru.below hb))
  have AT : Hid (LkAt w w.heap.size (w.heap.size + 1) (skC O no cO S ns cS s.last U nu cU) (skC O' no cO' S' ns cS' s.last U' nu cU') ((w.alloc (.cells (skC O no cO S ns cS s.last U nu cU) 25)).alloc (.cells (skC O' no cO' S' ns cS' s.last U' nu cU') 25))) := Lib.hid
    ⟨(Lies.new w _ _).al, Gen.lies_new1 w _ _ _, below_al (below_al (Below.refl _ _))⟩
  have hns : ns ≤ 1000 := by rw [h.lns]; exact hB.t
  have HNS := Lib.hid hns
  clear h k hB hns
  go_enter Try.func16, Try.ntmps16
  go_upto_region 1 with fail
  obtain ⟨W, hW⟩ : ∃ W, W = (w.alloc (.cells (skC O no cO S ns cS s.last U nu cU) 25)).alloc (.cells (skC O' no cO' S' ns cS' s.last U' nu cU') 25) := ⟨_, rfl⟩
  obtain ⟨b0, hb0⟩ : ∃ b, b = w.heap.size := ⟨_, rfl⟩
  obtain ⟨b1, hb1⟩ : ∃ b, b = w.heap.size + 1 := ⟨_, rfl⟩
  rw [← hW] at AT ⊢
  rw [← hb1, ← hb0] at AT ⊢
  clear hW hb0 hb1
  have x0 := AT.out.l0.cell (j := 0) rfl; have x1 := AT.out.l0.cell (j := 1) rfl; have x2 := AT.out.l0.cell (j := 2) rfl
  have y0 := AT.out.l1.cell (j := 0) rfl; have y1 := AT.out.l1.cell (j := 1) rfl; have y2 := AT.out.l1.cell (j := 2) rfl
  have e1 : (s.last != s.last) = false := by simp
  have e2 : ((ns : Int) != (ns : Int)) = false := by simp
  go_wp2_with fail
  refine (HLO.out _ AT.out.below).mono ?_
  rintro e w1 ⟨rfl, hb1⟩
  have AT := Lib.hid (AT.out.next hb1)
  clear hb1 x0 x1 x2 y0 y1 y2
  have x3 := AT.out.l0.cell (j := 3) rfl
  have y3 := AT.out.l1.cell (j := 3) rfl
  go_wp2_with fail
  refine (HLU.out _ AT.out.below).mono ?_
  rintro e w2 ⟨rfl, hb2⟩
  have AT := Lib.hid (AT.out.next hb2)
  clear hb2 x3 y3
  have x1 := AT.out.l0.cell (j := 1) rfl
  go_wp2_with fail
  clear x1
  go_loopw [39] (fun s39 wr => ∃ k : Nat, s39 = .int .i64 k ∧ k ≤ ns ∧ LkAt w b0 b1 (skC O no cO S ns cS s.last U nu cU) (skC O' no cO' S' ns cS' s.last U' nu cU') wr) (fun s39 _ => ns - (intOf s39).toNat)
  case atStart => exact ⟨0, rfl, Nat.zero_le _, AT.out⟩
  case round =>
    clear AT
    obtain ⟨k, rfl, hk, hAT⟩ := hrel
    have AT := Lib.hid hAT
    clear hAT
    by_cases hlt : k < ns
    · obtain ⟨⟨N, A, c, l⟩, hx⟩ : ∃ x, sg[k]? = some x := ⟨_, List.getElem?_eq_getElem (by have h1 := congrArg List.length HH.out.map; rw [List.length_map, ← HH.out.lns] at h1; omega)⟩
      obtain ⟨⟨N', A', c', l'⟩, hy⟩ : ∃ x, sg'[k]? = some x := ⟨_, List.getElem?_eq_getElem (by have h1 := congrArg List.length HK.out.map; rw [List.length_map, ← HK.out.lns] at h1; omega)⟩
      have hxy : (N, l) = (N', l') := by
        have h1 : (sg.map pgOf)[k]? = some (N, l) := by rw [List.getElem?_map, hx]; rfl
        rw [HH.out.map, ← HK.out.map, List.getElem?_map, hy] at h1
        simpa using h1.symm
      cases hxy
      obtain ⟨q, off, hS1, c0, c1⟩ := stage_row (HH.out.rs.row.below AT.out.below) hx
      obtain ⟨q', off', hS2, d0, d1⟩ := stage_row (HK.out.rs.row.below AT.out.below) hy
      subst hS1 hS2
      have R1 := (HH.out.rs.each _ (List.mem_of_getElem? hx)).below AT.out.below
      have R2 := (HK.out.rs.each _ (List.mem_of_getElem? hy)).below AT.out.below
      have hl : l.length ≤ 1000000 := HBD.out.e (N, l) (by rw [← HH.out.map]; exact List.mem_map.2 ⟨_, List.mem_of_getElem? hx, rfl⟩)
      simp only at c0 c1 d0 d1 R1 R2
      have hki : (k : Int) < (ns : Int) := by omega
      have hk0 : (0 : Int) ≤ (k : Int) := by omega
      have hw := wrapKS (k := k) (by have := HNS.out; omega)
      have HKM := Lib.hid hlt
      obtain ⟨m, hm⟩ : ∃ m, m = l.length := ⟨_, rfl⟩
      rw [← hm] at c1 d1 hl
      have HLI := Lib.hid (fun w' (h1 : Row w' A (rec_ l)) (h2 : Row w' A' (rec_ l)) => rfLikeRes l m hm (by omega) A A' c c' w' h1 h2)
      have e1 : (N != N) = false := by simp
      have LQ : LqAt w b0 b1 (skC O no cO (some ⟨q, off, none⟩) ns cS s.last U nu cU) (skC O' no cO' (some ⟨q', off', none⟩) ns cS' s.last U' nu cU') ⟨q, off + k * 2, none⟩ ⟨q, off + k * 2 + 1, none⟩ ⟨q', off' + k * 2, none⟩ ⟨q', off' + k * 2 + 1, none⟩ N (.slice A m c) (.slice A' m c') A A' l wr := ⟨AT.out, c0, c1, d0, d1, R1, R2⟩
      clear hx hy hlt hk c0 c1 d0 d1 R1 R2 hm hl AT
      go_upto_region 6 with fail
      refine wide_all (fun w5 => LqAt w b0 b1 (skC O no cO (some ⟨q, off, none⟩) ns cS s.last U nu cU) (skC O' no cO' (some ⟨q', off', none⟩) ns cS' s.last U' nu cU') ⟨q, off + k * 2, none⟩ ⟨q, off + k * 2 + 1, none⟩ ⟨q', off' + k * 2, none⟩ ⟨q', off' + k * 2 + 1, none⟩ N (.slice A m c) (.slice A' m c') A A' l w5) (by kernel_rfl) (by kernel_rfl) (LQ.next (below_drewOf (Below.refl _ _))) ?_
      (try simp only [List.append_eq, List.cons_append, List.nil_append])
      clear LQ
      repeat (first
        | go_big_quiet_skip
        | (go_big_quiet_want
           apply wide_op
           · (intro w5 h5; have z1 := h5.lk.l0.cell (j := 1) rfl; have z2 := h5.lk.l1.cell (j := 1) rfl; have z3 := h5.x0; have z4 := h5.x1; have z5 := h5.y0; have z6 := h5.y1; go_simp; first | done | with_reducible rfl | (refine (HLI.out _ h5.r1 h5.r2).mono ?_; rintro e w6 ⟨rfl, hb6⟩; exact ⟨rfl, h5.next hb6⟩))
           (try simp only [Act.put, List.setIfInBounds_toArray, List.set_cons_zero, List.set_cons_succ])
           go_big_quiet_on))
      refine wpQuiet_nil ?_
      intro w6 h6
      have K6 := Lib.hid h6.lk
      clear h6
      go_wp2_with fail
      go_roundw
      case rel => exact ⟨k + 1, rfl, HKM.out, K6.out⟩
      case measure => simp [intOf]; have := HKM.out; omega
    · have hki : ¬ (k : Int) < (ns : Int) := by omega
      clear hlt hk
      go_wp2_with fail
      go_ret
      exact ⟨rfl, AT.out.below⟩
theorem rfLikeS {w : World} {s : Si} (hB : Bd s) {no ns nu : Nat} {O : Option Addr} {cO : Nat} {S : Option Addr} {cS : Nat} {U : Option Addr} {cU : Nat} {no' ns' nu' : Nat} {O' : Option Addr} {cO' : Nat} {S' : Option Addr} {cS' : Nat} {U' : Option Addr} {cU' : Nat} (h : SkAt w s no ns nu O cO S cS U cU) (k : SkAt w s no' ns' nu' O' cO' S' cS' U' cU') :
    Calls Try.prog 16 #[skV O no cO S ns cS s.last U nu cU, skV O' no' cO' S' ns' cS' s.last U' nu' cU'] w (TellsB true w) := by
  obtain ⟨sg, h1⟩ := h
  obtain ⟨sg', k1⟩ := k
  have e1 : no' = no := by rw [h1.lno, k1.lno]
  have e2 : ns' = ns := by rw [h1.lns, k1.lns]
  have e3 : nu' = nu := by rw [h1.lnu, k1.lnu]
  subst e1 e2 e3
  exact rfLikeH s hB sg sg' _ _ _ O cO S cS U cU O' cO' S' cS' U' cU' w h1 k1
end Sk
end Go.Proofs.Ytmkbdlailffjeaa
