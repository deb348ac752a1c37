/- A text cut behind each line's end, and laid together again. -/
import Derived.Test.YtileonenphmkkaaDoorJobNum
import Derived.Test.YtileonenphmkkaaDoorJobBack
import Derived.Test.YtileonenphmkkaaDoorJobFmt
import Derived.Lib.SplitLaws
import Derived.Shelf.Strings.SplitCore
namespace Go.Proofs.YtileonenphmkkaaDoor
open Go.RowKit
set_option linter.unusedVariables false
set_option maxRecDepth 8000
namespace Jo
open Gen
open Go.Lib (decDigits)
/-- A line: its end stands at its end only. -/
def IsLine (l : List UInt8) : Prop := ∃ u, l = u ++ [10] ∧ (10 : UInt8) ∉ u
theorem idx10 (r : List UInt8) : ∀ u : List UInt8, (10 : UInt8) ∉ u → Lib.index (u ++ 10 :: r) [10] = (u.length : Int)
  | [], _ => by simp [Lib.index, List.isPrefixOf]
  | b :: u, h => by
    have h1 : ¬ (10 : UInt8) = b := fun e => h (by rw [e]; exact List.mem_cons_self ..)
    have h2 : (10 : UInt8) ∉ u := fun e => h (List.mem_cons_of_mem _ e)
    have ih := idx10 r u h2
    have h3 : ((10 : UInt8) == b) = false := beq_eq_false_iff_ne.2 h1
    rw [List.cons_append]
    unfold Lib.index
    have h4 : ([10] : List UInt8).isPrefixOf (b :: (u ++ 10 :: r)) = false := by simp [List.isPrefixOf, h3]
    rw [h4, if_neg (by simp), ih, if_neg (by first | omega | simp | (simp; omega))]
    first | done | simp
theorem line_idx {l : List UInt8} (h : IsLine l) (r : List UInt8) : Lib.index (l ++ r) [10] = ((l.length - 1 : Nat) : Int) ∧ 1 ≤ l.length := by
  obtain ⟨u, rfl, hu⟩ := h
  have := idx10 r u hu
  rw [List.append_assoc, List.singleton_append, this]
  simp
theorem split_lines : ∀ Ls : List (List UInt8), (∀ l ∈ Ls, IsLine l) → Lib.splitK [10] 1 Ls.length Ls.flatten = Ls ++ [[]]
  | [], _ => rfl
  | l :: Ls, h => by
    have ih := split_lines Ls fun x hx => h x (List.mem_cons_of_mem _ hx)
    obtain ⟨h1, h2⟩ := line_idx (h l (List.mem_cons_self ..)) Ls.flatten
    rw [List.flatten_cons, List.length_cons]
    unfold Lib.splitK
    rw [h1, if_neg (by first | omega | simp | (simp; omega))]
    have e1 : ((l.length - 1 : Nat) : Int).toNat + 1 = l.length := by omega
    have e2 : ((l.length - 1 : Nat) : Int).toNat + ([10] : List UInt8).length = l.length := by simp only [List.length_cons, List.length_nil]; omega
    rw [e1, e2, List.take_left' rfl, List.drop_left' rfl, ih]
    rfl
theorem cnt_lines : ∀ Ls : List (List UInt8), (∀ l ∈ Ls, IsLine l) → Lib.count Ls.flatten [10] = Ls.length
  | [], _ => Lib.count_miss (by decide)
  | l :: Ls, h => by
    have ih := cnt_lines Ls fun x hx => h x (List.mem_cons_of_mem _ hx)
    obtain ⟨h1, h2⟩ := line_idx (h l (List.mem_cons_self ..)) Ls.flatten
    rw [List.flatten_cons, Lib.count_hit (by simp) h1]
    have e2 : l.length - 1 + ([10] : List UInt8).length = l.length := by simp only [List.length_cons, List.length_nil]; omega
    rw [e2, List.drop_left' rfl, ih, List.length_cons]
    omega
theorem cntB_lines : ∀ Ls : List (List UInt8), (∀ l ∈ Ls, IsLine l) → Ls.flatten.count 10 = Ls.length
  | [], _ => rfl
  | l :: Ls, h => by
    have ih := cntB_lines Ls fun x hx => h x (List.mem_cons_of_mem _ hx)
    obtain ⟨u, rfl, hu⟩ := h l (List.mem_cons_self ..)
    rw [List.flatten_cons, List.count_append, List.count_append, List.count_eq_zero.2 hu, ih]
    simp
    omega
theorem dec_no10 (n : Nat) : (10 : UInt8) ∉ decDigits n := fun h => by
  have := dec_isD n 10 h
  revert this
  decide
theorem line_tx1 {w : List UInt8} (hw : (10 : UInt8) ∉ w) (n : Nat) : IsLine (tx1 w n) :=
  ⟨w ++ [32] ++ decDigits n, rfl, by
    have := dec_no10 n
    simp [hw, this]⟩
theorem line_tx2 {w : List UInt8} (hw : (10 : UInt8) ∉ w) (n m : Nat) : IsLine (tx2 w n m) :=
  ⟨w ++ [32] ++ decDigits n ++ [32] ++ decDigits m, rfl, by
    have h1 := dec_no10 n
    have h2 := dec_no10 m
    simp [hw, h1, h2]⟩
theorem line_txF (k : Nat) : IsLine (txF k) :=
  ⟨wFold ++ name k, rfl, by
    have h1 : (10 : UInt8) ∉ name k := by unfold name; split <;> decide
    have h2 : (10 : UInt8) ∉ wFold := by decide
    exact fun h => (List.mem_append.1 h).elim h2 h1⟩
theorem lines_are (j : Jb) : ∀ l ∈ lines j, IsLine l := by
  intro l hl
  simp only [lines, List.mem_cons, List.mem_nil_iff, or_false] at hl
  rcases hl with rfl | rfl | rfl | rfl | rfl | rfl
  · exact line_tx1 (by decide) _
  · exact line_tx2 (by decide) _ _
  · exact line_txF _
  · exact line_tx2 (by decide) _ _
  · exact line_tx1 (by decide) _
  · exact line_tx1 (by decide) _
theorem join0 : ∀ fs : List (List UInt8), Lib.join fs [] = fs.flatten
  | [] => rfl
  | [a] => by simp [Lib.join, List.intercalate]
  | a :: b :: r => by
    have ih := join0 (b :: r)
    unfold Lib.join at ih ⊢
    unfold List.intercalate at ih ⊢
    simp only [List.intersperse, List.flatten_cons, List.nil_append] at ih ⊢
    rw [ih]
/-- Strings as cells. -/
abbrev ss (l : List (List UInt8)) : List Value := l.map fun x => strv x
theorem str_back (xs : List ByteArray) : xs = (xs.map (·.data.toList)).map fun l => (⟨l.toArray⟩ : ByteArray) := by
  rw [List.map_map]
  conv => lhs; rw [← List.map_id xs]
  rfl
theorem str_info : (Tryd.prog.info? 9).map (fun i => (i.zero, i.size, i.bytes)) = some (some (.string ByteArray.empty), 1, 16) := by kernel_rfl
theorem jSplit (Ls : List (List UInt8)) (h : ∀ l ∈ Ls, IsLine l) (hl : Ls.flatten.length ≤ 1000) (w : World) :
    Calls Tryd.prog 15 #[strv Ls.flatten, strv [10]] w fun e w' => e = .returned (.slice (some ⟨w.heap.size, 0, none⟩) (Ls.length + 1) (Ls.length + 1)) ∧ w' = w.alloc (.cells (ss (Ls ++ [[]])).toArray 9) := by
  have hcnt := cnt_lines Ls h
  have hcb := cntB_lines Ls h
  have hle : Ls.length ≤ Ls.flatten.length := by rw [← hcb]; exact List.count_le_length ..
  have hsp : Lib.splitB ⟨#[10]⟩ 1 Ls.length ⟨Ls.flatten.toArray⟩ = (Ls ++ [[]]).map fun (l : List UInt8) => (⟨l.toArray⟩ : ByteArray) := by
    rw [str_back (Lib.splitB _ _ _ _), Lib.splitB_data]
    exact congrArg _ (split_lines Ls h)
  have HS := Lib.hid (show Calls Tryd.prog 30 #[strv Ls.flatten, strv [10], .int .i64 1, .int .i64 (-1)] w (fun e w' => e = .returned (.slice (some ⟨w.heap.size, 0, none⟩) (Ls.length + 1) (Ls.length + 1)) ∧ w' = w.alloc (.cells (ss (Ls ++ [[]])).toArray 9)) from by
    have g := Any.strings_genSplit_core Tryd.lays221 str_info ⟨Ls.flatten.toArray⟩ ⟨#[10]⟩ 1 (-1) (Ls.length + 1) w (by show Ls.flatten.toArray.size < _; rw [List.size_toArray]; omega) (by decide) (by decide)
      (fun x c hx => by
        have g := Tryd.strings_Index_one x 10 (w.alloc (.cells c 9))
        rw [← Lib.index_one] at g
        exact g)
      (by
        have g := Tryd.strings_Count_one ⟨Ls.flatten.toArray⟩ 10 w
        have e : Lib.countByte (⟨Ls.flatten.toArray⟩ : ByteArray).data.toList 10 = Lib.countB ⟨Ls.flatten.toArray⟩ ⟨#[10]⟩ := hcb.trans hcnt.symm
        rw [e] at g
        exact g)
      (by decide) (by decide)
      (by
        have e : Lib.countB ⟨Ls.flatten.toArray⟩ ⟨#[10]⟩ = Ls.length := hcnt
        have e2 : (⟨Ls.flatten.toArray⟩ : ByteArray).size = Ls.flatten.length := List.size_toArray ..
        rw [e, e2, if_pos (by decide)]
        omega)
    refine g.mono fun e w' ⟨h1, h2⟩ => ?_
    rw [Nat.add_sub_cancel, hsp] at h1 h2
    rw [List.length_map, List.length_append] at h1
    refine ⟨h1, h2.trans ?_⟩
    have e : Lib.cellsOf ((Ls ++ [[]]).map fun (l : List UInt8) => (⟨l.toArray⟩ : ByteArray)) (Ls.length + 1) = (ss (Ls ++ [[]])).toArray := by
      unfold Lib.cellsOf ss
      rw [List.length_map, List.length_append, List.length_singleton, Nat.sub_self, List.replicate_zero, List.append_nil, List.map_map]
      rfl
    rw [e]
    rfl)
  obtain ⟨s, hs⟩ : ∃ s, s = Ls.flatten := ⟨_, rfl⟩
  obtain ⟨n, hn⟩ : ∃ n, n = Ls.length + 1 := ⟨_, rfl⟩
  obtain ⟨cs, hcs⟩ : ∃ cs, cs = (ss (Ls ++ [[]])).toArray := ⟨_, rfl⟩
  rw [← hs, ← hn, ← hcs] at HS ⊢
  clear hcnt hcb hle hsp h hl hs hn hcs
  go_enter Tryd.func15, Tryd.ntmps15
  go_wp2_with fail
  refine HS.out.mono ?_
  rintro e w1 ⟨rfl, rfl⟩
  go_wp2_with fail
  go_ret
  exact ⟨rfl, rfl⟩
theorem jJoin0 (b c : Nat) (fs : List (List UInt8)) (w : World) (h : Flds w b fs) (hb : b < w.heap.size) (hl : fs.length ≤ 100) (hc : fs.length ≤ c) (hz : fs.flatten.length ≤ 50000) :
    Calls Tryd.prog 16 #[.slice (some ⟨b, 0, none⟩) fs.length c, strv []] w (GivesS fs.flatten w) := by
  have hm : ((fs.map fun l => (⟨l.toArray⟩ : ByteArray)).map (·.data.toList)) = fs := by
    rw [List.map_map]
    conv => rhs; rw [← List.map_id fs]
    rfl
  have g := Tryd.strings_Join b 0 c (fs.map fun l => (⟨l.toArray⟩ : ByteArray)) ⟨#[]⟩ w (fun j x hx => by
    rw [List.getElem?_map] at hx
    obtain ⟨l, h1, rfl⟩ := Option.map_eq_some_iff.1 hx
    rw [Nat.zero_add]
    exact h j l h1) hb (by rw [List.length_map]; omega) (by rw [List.length_map]; exact hc) (by rw [hm, show (⟨#[]⟩ : ByteArray).data.toList = [] from rfl, join0]; exact Nat.le_trans hz (by omega))
  rw [hm, List.length_map, show (⟨#[]⟩ : ByteArray).data.toList = [] from rfl, join0] at g
  exact g
end Jo
end Go.Proofs.YtileonenphmkkaaDoor
