/- without of the reference: a row of holds that is built. -/
import Derived.Test.YtciagbeamphihaaMarkSetR
namespace Go.Proofs.Ytciagbeamphihaa
open Go.RowKit
set_option linter.unusedVariables false
set_option maxRecDepth 8000
namespace Wm
theorem hoInfo : (Try.prog.info? 44).map (fun i => (i.zero, i.size, i.bytes)) = some (some (.agg #[.int .i64 0, .int .i64 0]), 2, 16) := by kernel_rfl
theorem one_ho (w : World) (x : Ho) : Row (w.alloc (.cells (hoC x) 44)) (some ⟨w.heap.size, 0, none⟩) (hc [x]) := by
  refine .inr ⟨w.heap.size, 0, rfl, fun j u hu => ?_⟩
  rw [hc_one] at hu
  rw [Nat.zero_add]
  refine (Lies.new w (hoC x) 44).cell ?_
  rw [← hu]
  simp [hL]
theorem without_next {hs : List Ho} {k : Nat} {x : Ho} (h : hs[k]? = some x) (no : Int) : without (hs.take (k + 1)) no = without (hs.take k) no ++ (if x.no = no then [] else [x]) ∧ has (hs.take (k + 1)) no = (has (hs.take k) no || decide (x.no = no)) := by
  rw [List.take_add_one, h]
  unfold without has
  constructor
  · by_cases e : x.no = no <;> simp [e]
  · simp
/-- Hands back holds and whether there was one of the number. -/
def GivesH (ys : List Ho) (b : Bool) (w : World) (e : Ending) (w' : World) : Prop :=
  ∃ B d, e = .returned (.tuple #[.slice B ys.length d, .bool b]) ∧ Row w' B (hc ys) ∧ ys.length ≤ d ∧ d ≤ maxLen ∧ (∀ a, B = some a → w.heap.size ≤ a.block) ∧ Below w.heap.size w w'
set_option maxRecDepth 100000 in
set_option maxHeartbeats 800000 in
theorem rfWithout (hs : List Ho) (B : Option Addr) (d : Nat) (no : Int) (w : World) (h : Row w B (hc hs)) (hl : hs.length ≤ 100000) :
    Calls Try.prog 40 #[.slice B hs.length d, .int .i64 no] w (GivesH (without hs no) (has hs no) w) := by
  have H := Lib.hid h
  have N0 := Lib.hid (show (w.alloc (.cells #[] 44)).ownsRow w.heap.size 44 2 (.slice (some ⟨w.heap.size, 0, none⟩) 0 0) 0 [] from own_new (Nat.le_refl _))
  obtain ⟨us, hus⟩ : ∃ us, us = without hs no := ⟨_, rfl⟩
  obtain ⟨hb, hhb⟩ : ∃ hb, hb = has hs no := ⟨_, rfl⟩
  have HU := Lib.hid (And.intro hus hhb)
  rw [← hus, ← hhb]
  clear h hus hhb
  go_enter Try.func40, Try.ntmps40
  go_wp2_with fail
  go_loopw [6, 7, 13] (fun o b i wr => ∃ k : Nat, i = .int .i64 k ∧ k ≤ hs.length ∧ b = .bool (has (hs.take k) no) ∧ wr.ownsRow w.heap.size 44 2 o (without (hs.take k) no).length (hc (without (hs.take k) no)) ∧ Below w.heap.size w wr) (fun _ _ i _ => hs.length - (intOf i).toNat)
  case atStart => exact ⟨0, rfl, Nat.zero_le _, rfl, N0.out, al_below _ _⟩
  case round =>
    obtain ⟨k, rfl, hk, rfl, hO, hB⟩ := hrel
    obtain ⟨ys, hys⟩ : ∃ ys, ys = without (hs.take k) no := ⟨_, rfl⟩
    obtain ⟨is, his⟩ : ∃ is, is = has (hs.take k) no := ⟨_, rfl⟩
    rw [← hys] at hO
    rw [← his]
    have HY := Lib.hid (And.intro hys his)
    have hyl : ys.length ≤ 100000 := by rw [hys]; have := without_len (hs.take k) no; rw [List.length_take] at this; omega
    obtain ⟨A1, d1, rfl, h1, h2, hl6, h3, h4⟩ := own_form hO (by omega)
    have HO := Lib.hid hO; have HB := Lib.hid hB
    have HYL := Lib.hid hyl
    have HL := Lib.hid (And.intro h1 (And.intro h2 (And.intro h3 h4)))
    clear hO hB hys his hyl h1 h2 hl6 h3 h4
    by_cases hlt : k < hs.length
    · obtain ⟨x, hx⟩ : ∃ x, hs[k]? = some x := ⟨_, List.getElem?_eq_getElem hlt⟩
      obtain ⟨b, off, rfl, c0, c1⟩ := row_ho (H.out.below HB.out) hx
      obtain ⟨n1, n2⟩ := without_next hx no
      have HN := Lib.hid (And.intro n1 n2)
      have ew : IntKind.i64.wrap ((k : Int) + 1) = (k : Int) + 1 := wrap64_in (by omega) (by omega)
      clear hx n1 n2
      by_cases e : x.no = no
      · have e0 := eq_b e
        have E := Lib.hid e
        clear e
        go_wp2_with fail
        go_roundw
        case rel =>
          refine ⟨k + 1, by go_num, by omega, ?_, ?_, below_next HB.out (al_below _ _)⟩
          · rw [HN.out.2, decide_eq_true E.out, Bool.or_true]
          · rw [HN.out.1, if_pos E.out, List.append_nil, ← HY.out.1]; exact own_up HO.out (al_below _ _)
        case measure => simp [intOf]; omega
      · have e0 := ne_b e
        have E := Lib.hid e
        obtain ⟨i0, hi0, hz0, hz1, hz2⟩ := info_parts hoInfo
        have HI0 := Lib.hid hi0; have HZ0 := Lib.hid hz0; have HZ1 := Lib.hid hz1; have HZ2 := Lib.hid hz2
        clear e hi0 hz0 hz1 hz2
        go_wp2_with (at_builtin; refine hold_mk ?_)
        refine hold_out ?_
        have hyk := HYL.out
        refine wpApp rfl _ _ 23 rfl w.heap.size 44 i0 _ 2 16 Try.underlying23 HI0.out HZ0.out HZ1.out HZ2.out rfl (by omega) _ ys.length (hc ys) rfl (own_up HO.out (below_al (al_below _ _))) _ 1 1 (hc [x]) rfl (by have h := one_ho (wr.alloc (.cells (hoC x) 44)) x; rw [World.size_alloc] at h; exact h) (by simp [hc_len]) (hc_ones _)
          (by unfold maxLen; omega) (by omega) (by have := HB.out.size; simp only [World.size_alloc]; omega) ?_
        intro v9 w9 hown9 hb9
        rw [← hc_app, show ys.length + 1 = (ys ++ [x]).length by simp] at hown9
        obtain ⟨zs, hzs⟩ : ∃ zs, zs = ys ++ [x] := ⟨_, rfl⟩
        rw [← hzs] at hown9
        have hb9' := al_apart (al_apart hb9 (by have := HB.out.size; simp only [World.size_alloc]; omega)) HB.out.size
        have HB9 := Lib.hid (show Below w.heap.size w w9 from ⟨hb9'.os.trans HB.out.os, hb9'.tape.trans HB.out.tape, hb9'.output.trans HB.out.output, Nat.le_trans HB.out.size hb9'.size, fun k hk => (hb9'.block k hk).trans (HB.out.block k hk)⟩)
        have HO9 := Lib.hid hown9
        have HZS := Lib.hid hzs
        clear hown9 hb9 hb9' hzs hyk
        go_wp2_with fail
        go_roundw
        case rel =>
          refine ⟨k + 1, by go_num, by omega, ?_, ?_, HB9.out⟩
          · rw [HN.out.2, decide_eq_false E.out, Bool.or_false, ← HY.out.2]
          · rw [HN.out.1, if_neg E.out, ← HY.out.1, ← HZS.out]; exact HO9.out
        case measure => simp [intOf]; omega
    · have hkn : hs.take k = hs := List.take_of_length_le (by omega)
      have hE := HY.out
      rw [hkn, ← HU.out.1, ← HU.out.2] at hE
      have HE := Lib.hid hE
      clear hkn hE
      go_wp2_with fail
      obtain ⟨l1, l2, l3, l4⟩ := HL.out
      rw [← HE.out.1, ← HE.out.2]
      exact bodyPost_ret (v := .tuple #[.slice A1 ys.length d1, .bool is]) (by simp [results, Try.results40, go_sem]) rfl ⟨A1, d1, rfl, l3, l1, l2, fun a ha => (l4 a ha).1, HB.out⟩
end Wm
end Go.Proofs.Ytciagbeamphihaa
