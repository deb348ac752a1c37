/- GroupBld, GroupWr, put together. -/
import Derived.Test.YthfbcfddfbipfaaZ9
import Derived.Test.YthfbcfddfbipfaaZ13
import Derived.Lib.Builder
import Derived.Lib.AppendStr
import Derived.Lib.UnsafeStr
import Derived.Lib.OthersKept
import Derived.Lib.OwnKind
import Derived.Laws.Externs
import Derived.RegionTactic
import Derived.BigRegion
import Derived.Test.YthfbcfddfbipfaaZ31
import Derived.Test.YthfbcfddfbipfaaZ5
/- strings.Builder, over the call's own builder: copyCheck, WriteString, String. -/
namespace Go.Proofs.Ythfbcfddfbipfaa
open Go.RowKit
set_option linter.unusedVariables false
set_option maxRecDepth 8000
namespace Bld
abbrev TB : TypeId := 82
abbrev TU : TypeId := 5
/-- A builder of the call's own, in block b, holding bytes. -/
def At (b : Nat) (l : List UInt8) (w : World) : Prop := Lib.IsBuilder 82 5 b b (Lib.byteCells l) w
/-- It was written to. -/
def Used (b : Nat) (l : List UInt8) (w : World) : Prop := Lib.BuilderAt 82 5 b b (.pointer (some ⟨b, 0, none⟩)) (Lib.byteCells l) w
theorem Used.at_ {b : Nat} {l : List UInt8} {w : World} (h : Used b l w) : At b l w := .inr h
theorem builder_below {b : Nat} {p : Value} {bs : List Value} {w w' : World} (h : Lib.BuilderAt 82 5 b b p bs w) (hb : Below w.heap.size w w') : Lib.BuilderAt 82 5 b b p bs w' := by
  have hlt := h.lt
  obtain ⟨hB, v, hk, hown, hne⟩ := h
  refine ⟨hB, v, (hb.block b hlt).trans hk, ?_, hne⟩
  obtain ⟨hl, ⟨rfl, h0⟩ | ⟨g, cap, cur, rfl, hg, hh, hn, hm, hc, hx⟩⟩ := hown
  · exact ⟨hl, .inl ⟨rfl, h0⟩⟩
  · exact ⟨hl, .inr ⟨g, cap, cur, rfl, hg, (hb.block g (Array.getElem?_eq_some_iff.1 hh).1).trans hh, hn, hm, hc, hx⟩⟩
theorem At.below {b : Nat} {l : List UInt8} {w w' : World} (h : At b l w) (hb : Below w.heap.size w w') : At b l w' := h.imp (fun x => builder_below x hb) (fun x => builder_below x hb)
theorem At.lt {b : Nat} {l : List UInt8} {w : World} (h : At b l w) : b < w.heap.size := h.elim (fun x => x.lt) (fun x => x.lt)
theorem At.new (w : World) : At w.heap.size [] (w.alloc (.cells #[.pointer none, .slice none 0 0] 82)) := Lib.fresh_isBuilder _ _ w
theorem strCells_eq (s : ByteArray) : Lib.strCells s = Lib.byteCells (sl s) := rfl
theorem cells_app (l m : List UInt8) : Lib.byteCells (l ++ m) = Lib.byteCells l ++ Lib.byteCells m := by simp [Lib.byteCells]
theorem infoByte : (Try.prog.info? 5).map (fun i => (i.zero, i.size, i.bytes)) = some (some (.int .u8 0), 1, 1) := by kernel_rfl
theorem sizeB : (Try.prog.info? 82).map (·.size) = some 2 := by kernel_rfl
theorem liesB : liesAt Try.prog Try.prog.depth 82 (2 / Try.prog.cellsOf 82) 0 82 1 = true := by kernel_rfl
theorem cellsByte : Try.prog.cellsOf 5 = 1 := by kernel_rfl
theorem neB : (82 : Nat) ≠ 5 := by decide
set_option maxHeartbeats 1000000 in
set_option maxRecDepth 100000 in
theorem check_used (b : Nat) (w : World) (h0 : w.cell? ⟨b, 0, none⟩ = some (.pointer (some ⟨b, 0, none⟩))) :
    Calls Try.prog 111 #[.pointer (some ⟨b, 0, none⟩)] w fun e w' => e = .returned (.tuple #[]) ∧ w' = w := by
  obtain ⟨j, hj, _⟩ := Option.map_eq_some_iff.1 sizeB
  have HJ := Lib.hid hj
  clear hj
  go_enter Try.func111, Try.ntmps111
  go_wp2
  rw [Lib.run_neq_ptr_same w _ Try.underlying79 HJ.out]
  go_wp2
  go_end0
  exact ⟨rfl, rfl⟩
set_option maxHeartbeats 1000000 in
set_option maxRecDepth 100000 in
theorem check_fresh (b : Nat) (w : World) (h0 : w.cell? ⟨b, 0, none⟩ = some (.pointer none)) (hsh : w.shape? b = some (82, 2)) (hfz : w.frozen? ⟨b, 0, none⟩ = false) :
    Calls Try.prog 111 #[.pointer (some ⟨b, 0, none⟩)] w fun e w' => e = .returned (.tuple #[]) ∧ w' = w.setCell ⟨b, 0, none⟩ (.pointer (some ⟨b, 0, none⟩)) := by
  obtain ⟨j, hj, hjs⟩ := Option.map_eq_some_iff.1 sizeB
  have HJ := Lib.hid hj; have HJS := Lib.hid hjs; have HSH := Lib.hid hsh
  clear hj hjs hsh
  go_enter Try.func111, Try.ntmps111
  go_wp2
  rw [Lib.run_to_unsafe w ⟨b, 0, none⟩ Try.underlying79 Try.underlying162 HJ.out (by rw [HJS.out]; decide) HSH.out (Nat.zero_lt_succ 1)]
  simp only [Result.andThen]
  rw [Oper.upon_value]
  go_wp2
  rw [run_callFunc_extern Try.func129 (by kernel_rfl) (by kernel_rfl) (by kernel_rfl) (e := Extern.AbiNoEscape.same) (by kernel_rfl)]
  rw [Lib.run_noEscape]
  simp only [Result.andThen]
  rw [Oper.upon_value]
  go_wp2
  rw [Lib.run_from_unsafe w ⟨b, 0, none⟩ Try.underlying162 Try.underlying79 HJ.out HSH.out liesB]
  simp only [Result.andThen]
  rw [Oper.upon_value]
  go_wp2
  go_end0
  exact ⟨rfl, rfl⟩
theorem check (b : Nat) (l : List UInt8) (w : World) (h : At b l w) :
    Calls Try.prog 111 #[.pointer (some ⟨b, 0, none⟩)] w fun e w' => e = .returned (.tuple #[]) ∧ Used b l w' ∧ Below b w w' ∧ Lib.OthersKept 5 (some b) w w' := by
  rcases h with h | h
  · refine (check_fresh b w h.cell0 h.shape h.frozen0).mono ?_
    rintro e w' ⟨rfl, rfl⟩
    exact ⟨rfl, h.used _, (Below.refl b w).setCell (p := ⟨b, 0, none⟩) h.1 _, (Lib.OthersKept.refl _ _ w).setCell ⟨b, 0, none⟩ rfl _⟩
  · refine (check_used b w h.cell0).mono ?_
    rintro e w' ⟨rfl, rfl⟩
    exact ⟨rfl, h, Below.refl b _, Lib.OthersKept.refl _ _ _⟩
set_option maxHeartbeats 2000000 in
set_option maxRecDepth 100000 in
theorem writeString (b : Nat) (l : List UInt8) (s : ByteArray) (w : World) (h : At b l w) (hlen : l.length + s.size ≤ 140737488355328) :
    Calls Try.prog 80 #[.pointer (some ⟨b, 0, none⟩), .string s] w fun e w' => e = .returned (.tuple #[.int .i64 s.size, .nilIface]) ∧ Used b (l ++ sl s) w' ∧ Below b w w' ∧ Lib.OthersKept 5 (some b) w w' := by
  obtain ⟨i0, hi, hz0, hz1, hz2⟩ := info_parts infoByte
  have HI := Lib.hid hi; have HZ0 := Lib.hid hz0; have HZ1 := Lib.hid hz1; have HZ2 := Lib.hid hz2
  have HC := Lib.hid (check b l w h)
  have hbw := Lib.hid h.lt
  have HLEN := Lib.hid hlen
  clear h hi hz0 hz1 hz2 hlen
  go_enter Try.func80, Try.ntmps80
  go_wp2_with fail
  refine HC.out.mono ?_
  rintro e w1 ⟨rfl, h1, hb1, hk1⟩
  obtain ⟨hB, v, hbk, hown, hne⟩ := h1
  have c0 : w1.cell? ⟨b, 0, none⟩ = some (.pointer (some ⟨b, 0, none⟩)) := by rw [Lib.cell_of_heap hbk]; rfl
  have c1 : w1.cell? ⟨b, 1, none⟩ = some v := by rw [Lib.cell_of_heap hbk]; rfl
  have HBK := Lib.hid hbk; have HOWN := Lib.hid hown; have HNE := Lib.hid hne; have HB1 := Lib.hid hb1; have HK1 := Lib.hid hk1
  clear hbk hown hne hb1 hk1
  go_wp2_with (at_builtin; refine hold_mk ?_)
  refine hold_out ?_
  refine Lib.wpList_append_own_string _ rfl _ _ 80 9 rfl b 5 i0 Try.underlying80 Try.underlying9 HI.out HZ0.out HZ1.out HZ2.out _ _ _ rfl HOWN.out s rfl ?c3 ?c4 ?c5 ?_
  case c3 => have := HLEN.out; simp [Lib.byteCells_length]; unfold maxLen; omega
  case c4 => have := HLEN.out; simp [Lib.byteCells_length]; omega
  case c5 => have := HB1.out.size; have := hbw.out; omega
  intro v' w2 hown' hgrow _
  have hlt : b < w1.heap.size := by have := HB1.out.size; have := hbw.out; omega
  have hb2 : w2.heap[b]? = some (.cells #[.pointer (some ⟨b, 0, none⟩), v] 82 (0, 0)) := by
    rw [hgrow.block b hlt (fun e => HNE.out e.symm)]
    exact HBK.out
  have d0 : w2.cell? ⟨b, 0, none⟩ = some (.pointer (some ⟨b, 0, none⟩)) := by rw [Lib.cell_of_heap hb2]; rfl
  have d1 : w2.cell? ⟨b, 1, none⟩ = some v := by rw [Lib.cell_of_heap hb2]; rfl
  have f1 : w2.frozen? ⟨b, 1, none⟩ = false := Lib.frozen_of_heap hb2 1
  obtain ⟨ao, n', cap, rfl⟩ : ∃ ao n' cap, v' = .slice ao n' cap := by
    rcases hown'.2 with ⟨hv, _⟩ | ⟨g, cap, cur, hv, _⟩
    · exact ⟨_, _, _, hv⟩
    · exact ⟨_, _, _, hv⟩
  have HB2 := Lib.hid hb2; have HOW2 := Lib.hid hown'; have HG := Lib.hid hgrow
  clear hb2 hown' hgrow
  go_wp2
  go_ret2
  refine ⟨rfl, ?_, ?_, ?_⟩
  · refine Lib.BuilderAt.put (T := 82) (e := 5) (Nat.le_refl b) HB2.out (bs' := Lib.byteCells (l ++ sl s)) ?_ neB
    rw [cells_app, ← strCells_eq, List.length_append, Lib.strCells_length]
    exact HOW2.out
  · exact (HB1.out.grown HG.out (by have := HB1.out.size; have := hbw.out; omega) (fun k hk => (HOWN.out.lt k hk).1)).setCell (p := ⟨b, 1, none⟩) (Nat.le_refl b) _
  · exact (HK1.out.grown HG.out (Lib.ownsRow_kind HOWN.out)).setCell ⟨b, 1, none⟩ rfl _
set_option maxHeartbeats 1000000 in
set_option maxRecDepth 100000 in
theorem string (b : Nat) (l : List UInt8) (w : World) (h : At b l w) (h0 : l ≠ []) :
    Calls Try.prog 53 #[.pointer (some ⟨b, 0, none⟩)] w fun e w' => e = .returned (.string ⟨l.toArray⟩) ∧ Below b w w' := by
  obtain ⟨p, hB, v, hbk, hown, hne⟩ : ∃ p, Lib.BuilderAt 82 5 b b p (Lib.byteCells l) w := by
    rcases h with h | h
    · exact ⟨_, h⟩
    · exact ⟨_, h⟩
  have hl0 : l.length ≠ 0 := by simpa using h0
  rw [Lib.byteCells_length] at hown
  obtain ⟨g, cap, cur, rfl, hbg, hg, hnc, hcm, hcs, htake⟩ : ∃ g cap cur, v = .slice (some ⟨g, 0, none⟩) l.length cap ∧ b ≤ g ∧ w.heap[g]? = some (.cells cur 5 (0, 0)) ∧ l.length ≤ cap ∧ cap ≤ maxLen ∧ cur.size = cap * 1 ∧ cur.toList.take (l.length * 1) = Lib.byteCells l := by
    rcases hown.2 with ⟨_, hz⟩ | ⟨g, cap, cur, hv, r⟩
    · exact absurd hz hl0
    · exact ⟨g, cap, cur, hv, r⟩
  have c1 : w.drew.cell? ⟨b, 1, none⟩ = some (.slice (some ⟨g, 0, none⟩) l.length cap) := by
    have : w.drew.heap[b]? = some (.cells #[p, .slice (some ⟨g, 0, none⟩) l.length cap] 82 (0, 0)) := hbk
    rw [Lib.cell_of_heap this]; rfl
  have hSD : (Builtin.unsafeSliceData_ #[80] 127 #[.slice (some ⟨g, 0, none⟩) l.length cap]).run Try.prog w.drew = .ok (.pointer (some ⟨g, 0, none⟩)) w.drew :=
    Lib.run_unsafeSliceData_row _ _ _ _ _ _ (by omega)
  have hUS : (Builtin.unsafeString_ #[127, 3] 9 #[.pointer (some ⟨g, 0, none⟩), .int .i64 l.length]).run Try.prog w.drew = .ok (.string ⟨l.toArray⟩) (w.drew.freeze ⟨g, 0, none⟩ l.length) := by
    refine Lib.run_unsafeString_row w.drew 127 3 9 5 Try.underlying127 cellsByte g cur.size (by have hg' : w.drew.heap[g]? = some (.cells cur 5 (0, 0)) := hg; simp [World.shape?, hg']) l h0 (by omega) (by unfold maxLen at hcm; omega) ?_
    intro j x hx
    have := hown.cells (g := g) rfl j (.int .u8 x.toNat) (by simp [Lib.byteCells, hx])
    exact this
  have HBG := Lib.hid hbg
  clear h0 hl0 hown hne hbg hg hnc hcm hcs htake hbk hB
  go_enter Try.func53, Try.ntmps53
  go_wp2
  go_region
  all_goals (go_wp2; go_ret; exact ⟨rfl, Lib.below_freeze (Below.drew (Below.refl b w)) (p := ⟨g, 0, none⟩) HBG.out _⟩)
end Bld
end Go.Proofs.Ythfbcfddfbipfaa
/- What a group's fields are written by: closures over a builder. -/
namespace Go.Proofs.Ythfbcfddfbipfaa
open Go.RowKit
open Itm Vlq
set_option linter.unusedVariables false
set_option maxRecDepth 8000
namespace Grp
open Pan (Pn Pl)
/-- What is written to a builder in block b turns that block and rows of bytes alone. -/
structure Kp (b : Nat) (w w' : World) : Prop where
  below : Below b w w'
  others : Lib.OthersKept 5 (some b) w w'
theorem Kp.refl (b : Nat) (w : World) : Kp b w w := ⟨Below.refl _ _, Lib.OthersKept.refl _ _ _⟩
theorem Kp.trans {b : Nat} {x y z : World} (h : Kp b x y) (k : Kp b y z) : Kp b x z := ⟨h.below.trans k.below, h.others.trans k.others⟩
theorem Kp.of_below {b : Nat} {x y : World} (h : Below x.heap.size x y) (hb : b ≤ x.heap.size) : Kp b x y :=
  ⟨h.mono hb, fun k o hk _ _ => (h.block k (Array.getElem?_eq_some_iff.1 hk).1).trans hk⟩
theorem Kp.lies {b k : Nat} {C : Array Value} {T : TypeId} {x y : World} (h : Kp b x y) (hL : Lies k C T x) (hk : k ≠ b) (hT : T ≠ 5) : Lies k C T y :=
  h.others k _ hL (by simpa using hk) (fun c fz e => by injection e with _ e2 _; exact hT e2)
theorem Kp.size {b : Nat} {x y : World} (h : Kp b x y) : x.heap.size ≤ y.heap.size := h.below.size
set_option maxRecDepth 100000 in
theorem gpPutNumber (z : Int) (h0 : 0 ≤ z) (h1 : z ≤ 9223372036854775807) (w : World) : Calls Try.prog 49 #[.int .i64 z] w (IsStr (enc z.toNat) w) := by
  obtain ⟨n, rfl⟩ := Int.eq_ofNat_of_zero_le h0
  have HV := Lib.hid (fun w => vlqPut_pos n (by omega) w)
  clear h0
  go_enter Try.func49, Try.ntmps49
  go_wp2_with fail
  refine (HV.out _).mono ?_
  rintro e w2 ⟨rfl, hb⟩
  go_wp2_with fail
  go_ret
  exact ⟨rfl, hb⟩
theorem gpPutText (s : ByteArray) (h : s.size ≤ 4096) (w : World) : Calls Try.prog 52 #[.string s] w (IsStr (enc s.size ++ sl s) w) := by
  have HV := Lib.hid (fun w => vlqText_ok s h w)
  clear h
  go_enter Try.func52, Try.ntmps52
  go_wp2_with fail
  refine (HV.out _).mono ?_
  rintro e w2 ⟨rfl, hb⟩
  go_wp2_with fail
  go_ret
  exact ⟨rfl, hb⟩
/-- A closure that writes: its two captured blocks. -/
structure Capt (b b1 b2 : Nat) (G : FuncId) (T : TypeId) (w : World) : Prop where
  out : Lies b1 #[.pointer (some ⟨b, 0, none⟩)] 79 w
  put : Lies b2 #[.func (.func G) #[] #[]] T w
  n1 : b1 ≠ b
  n2 : b2 ≠ b
theorem Capt.kp {b b1 b2 : Nat} {G : FuncId} {T : TypeId} {x y : World} (h : Capt b b1 b2 G T x) (k : Kp b x y) (hT : T ≠ 5) : Capt b b1 b2 G T y :=
  ⟨k.lies h.out h.n1 (by decide), k.lies h.put h.n2 hT, h.n1, h.n2⟩
/-- What a round reads. -/
structure WrAt (b b1 b2 : Nat) (G : FuncId) (T : TypeId) (l : List UInt8) (w0 w : World) : Prop where
  bld : Bld.At b l w
  capt : Capt b b1 b2 G T w
  kp : Kp b w0 w
theorem WrAt.next {b b1 b2 : Nat} {G : FuncId} {T : TypeId} {l : List UInt8} {w0 w w' : World} (h : WrAt b b1 b2 G T l w0 w) (hb : Below w.heap.size w w') (hT : T ≠ 5) : WrAt b b1 b2 G T l w0 w' :=
  have k : Kp b w w' := Kp.of_below hb (Nat.le_of_lt h.bld.lt)
  ⟨h.bld.below hb, h.capt.kp k hT, h.kp.trans k⟩
theorem enc10 (n : Nat) (h : n < 18446744073709551616) : (enc n).length ≤ 10 := enc_len n h
set_option maxRecDepth 100000 in
set_option maxHeartbeats 4000000 in
theorem gpNumbers (b b1 b2 a : Nat) (zs : List Int) (c : Nat) (l : List UInt8) (w : World) (hB : Bld.At b l w) (hC : Capt b b1 b2 49 85 w) (hA : Lies a (zs.map (Value.int .i64)).toArray 2 w) (hab : a ≠ b)
    (hz : ∀ z ∈ zs, 0 ≤ z ∧ z ≤ 9223372036854775807) (hlen : l.length + 10 * zs.length ≤ 1000000000) (hn : zs.length ≤ 1000) :
    Calls Try.prog 79 #[.slice (some ⟨a, 0, none⟩) zs.length c, .pointer (some ⟨b1, 0, none⟩), .pointer (some ⟨b2, 0, none⟩)] w fun e w' => e = .returned (.tuple #[]) ∧ Bld.At b (l ++ zs.flatMap (fun z : Int => enc z.toNat)) w' ∧ Kp b w w' := by
  have HB := Lib.hid hB; have HC := Lib.hid hC; have HA := Lib.hid hA; have HZ := Lib.hid hz; have HLEN := Lib.hid hlen; have HAB := Lib.hid hab
  clear hB hC hA hz hlen hab
  go_enter Try.func79, Try.ntmps79
  go_wp2_with fail
  go_loopw [8] (fun i wr => ∃ k : Nat, i = .int .i64 k ∧ k ≤ zs.length ∧ WrAt b b1 b2 49 85 (l ++ (zs.take k).flatMap (fun z : Int => enc z.toNat)) w wr ∧ (l ++ (zs.take k).flatMap (fun z : Int => enc z.toNat)).length ≤ l.length + 10 * k) (fun i _ => zs.length - (intOf i).toNat)
  case atStart => exact ⟨0, rfl, Nat.zero_le _, by simp; exact ⟨HB.out, HC.out, Kp.refl _ _⟩, by simp⟩
  case round =>
    obtain ⟨k, rfl, hk, hW, hLk⟩ := hrel
    have HW := Lib.hid hW; have HLK := Lib.hid hLk
    clear hW hLk
    by_cases hlt : k < zs.length
    · obtain ⟨z, hx⟩ : ∃ z, zs[k]? = some z := ⟨_, List.getElem?_eq_getElem hlt⟩
      have q0 : wr.cell? ⟨a, k, none⟩ = some ((Value.int .i64) z) := by
        have h := Lies.cell (HW.out.kp.lies HA.out HAB.out (by decide)) (j := k) (v := (Value.int .i64) z) (by rw [List.getElem?_toArray, List.getElem?_map, hx]; rfl)
        exact h
      have HX := Lib.hid (List.mem_of_getElem? hx)
      have HT := Lib.hid (show (zs.take (k + 1)).flatMap (fun z : Int => enc z.toNat) = (zs.take k).flatMap (fun z : Int => enc z.toNat) ++ (fun z : Int => enc z.toNat) z by rw [List.take_add_one, hx, List.flatMap_append]; simp)
      obtain ⟨t, ht⟩ : ∃ t, t = (fun z : Int => enc z.toNat) z := ⟨_, rfl⟩
      have HP := Lib.hid (fun w => show Calls Try.prog 49 #[(Value.int .i64) z] w (IsStr t w) from ht ▸ gpPutNumber z (HZ.out z HX.out).1 (HZ.out z HX.out).2 w)
      have HTL := Lib.hid (show t.length ≤ 10 from by rw [ht]; have h := HZ.out z HX.out; exact enc10 _ (by omega))
      rw [← ht] at HT
      clear hx ht
      go_wp2_with fail
      refine wide_tail 4 (WrAt b b1 b2 49 85 (l ++ (zs.take k).flatMap (fun z : Int => enc z.toNat)) w) (by kernel_rfl) (by kernel_rfl) (HW.out.next (below_drewOf (Below.refl _ _)) (by decide)) ?_
      simp only [List.take_succ_cons, List.take_zero, List.drop_succ_cons, List.drop_zero]
      repeat (first
      | go_big_quiet_skip
      | (go_big_quiet_want
         apply wide_op
         · (intro w5 h5; have x1 := h5.capt.out.cell (j := 0) rfl; have x2 := h5.capt.put.cell (j := 0) rfl; go_simp; first | done | with_reducible rfl | (refine (HP.out _).mono ?_; rintro e w6 ⟨rfl, hb6⟩; exact ⟨rfl, h5.next hb6 (by decide)⟩))
         (try simp only [Act.put, List.setIfInBounds_toArray, List.set_cons_zero, List.set_cons_succ])
         go_big_quiet_on))
      refine wpQuiet_nil ?_
      intro w6 h6
      have H6 := Lib.hid h6
      clear h6 q0
      have HWS := Lib.hid (Bld.writeString b (l ++ (zs.take k).flatMap (fun z : Int => enc z.toNat)) ⟨t.toArray⟩ w6 H6.out.bld (by have h1 := HLK.out; have h2 := HTL.out; have h3 := HLEN.out; have : (⟨t.toArray⟩ : ByteArray).size = t.length := (key_bytes t).2; rw [this]; omega))
      go_wp2_with fail
      refine HWS.out.mono ?_
      rintro e w7 ⟨rfl, hU, hb7, ho7⟩
      have H7 := Lib.hid (show WrAt b b1 b2 49 85 (l ++ (zs.take (k + 1)).flatMap (fun z : Int => enc z.toNat)) w w7 from ⟨by rw [HT.out, ← List.append_assoc]; have h := hU.at_; rw [(key_bytes t).1] at h; exact h, H6.out.capt.kp ⟨hb7, ho7⟩ (by decide), H6.out.kp.trans ⟨hb7, ho7⟩⟩)
      clear hU hb7 ho7
      go_wp2_with fail
      go_roundw
      case rel => exact ⟨k + 1, rfl, by omega, H7.out, by have h1 := HLK.out; have h2 := HTL.out; rw [HT.out]; simp only [List.length_append] at h1 ⊢; omega⟩
      case measure => simp [intOf]; omega
    · have hge : zs.length ≤ k := by omega
      have hk2 : k = zs.length := by omega
      have H7 := Lib.hid (show WrAt b b1 b2 49 85 (l ++ zs.flatMap (fun z : Int => enc z.toNat)) w wr from by have h := HW.out; rwa [List.take_of_length_le hge] at h)
      go_wp2_with fail
      go_end0
      exact ⟨rfl, H7.out.bld, H7.out.kp⟩
set_option maxRecDepth 100000 in
set_option maxHeartbeats 4000000 in
theorem gpSigned (b b1 b2 a : Nat) (zs : List Int) (c : Nat) (l : List UInt8) (w : World) (hB : Bld.At b l w) (hC : Capt b b1 b2 50 85 w) (hA : Lies a (zs.map (Value.int .i64)).toArray 2 w) (hab : a ≠ b)
    (hz : ∀ z ∈ zs, -9223372036854775808 ≤ z ∧ z ≤ 9223372036854775807) (hlen : l.length + 10 * zs.length ≤ 1000000000) (hn : zs.length ≤ 1000) :
    Calls Try.prog 79 #[.slice (some ⟨a, 0, none⟩) zs.length c, .pointer (some ⟨b1, 0, none⟩), .pointer (some ⟨b2, 0, none⟩)] w fun e w' => e = .returned (.tuple #[]) ∧ Bld.At b (l ++ zs.flatMap (fun z : Int => enc (zz z))) w' ∧ Kp b w w' := by
  have HB := Lib.hid hB; have HC := Lib.hid hC; have HA := Lib.hid hA; have HZ := Lib.hid hz; have HLEN := Lib.hid hlen; have HAB := Lib.hid hab
  clear hB hC hA hz hlen hab
  go_enter Try.func79, Try.ntmps79
  go_wp2_with fail
  go_loopw [8] (fun i wr => ∃ k : Nat, i = .int .i64 k ∧ k ≤ zs.length ∧ WrAt b b1 b2 50 85 (l ++ (zs.take k).flatMap (fun z : Int => enc (zz z))) w wr ∧ (l ++ (zs.take k).flatMap (fun z : Int => enc (zz z))).length ≤ l.length + 10 * k) (fun i _ => zs.length - (intOf i).toNat)
  case atStart => exact ⟨0, rfl, Nat.zero_le _, by simp; exact ⟨HB.out, HC.out, Kp.refl _ _⟩, by simp⟩
  case round =>
    obtain ⟨k, rfl, hk, hW, hLk⟩ := hrel
    have HW := Lib.hid hW; have HLK := Lib.hid hLk
    clear hW hLk
    by_cases hlt : k < zs.length
    · obtain ⟨z, hx⟩ : ∃ z, zs[k]? = some z := ⟨_, List.getElem?_eq_getElem hlt⟩
      have q0 : wr.cell? ⟨a, k, none⟩ = some ((Value.int .i64) z) := by
        have h := Lies.cell (HW.out.kp.lies HA.out HAB.out (by decide)) (j := k) (v := (Value.int .i64) z) (by rw [List.getElem?_toArray, List.getElem?_map, hx]; rfl)
        exact h
      have HX := Lib.hid (List.mem_of_getElem? hx)
      have HT := Lib.hid (show (zs.take (k + 1)).flatMap (fun z : Int => enc (zz z)) = (zs.take k).flatMap (fun z : Int => enc (zz z)) ++ (fun z : Int => enc (zz z)) z by rw [List.take_add_one, hx, List.flatMap_append]; simp)
      obtain ⟨t, ht⟩ : ∃ t, t = (fun z : Int => enc (zz z)) z := ⟨_, rfl⟩
      have HP := Lib.hid (fun w => show Calls Try.prog 50 #[(Value.int .i64) z] w (IsStr t w) from ht ▸ vlqSigned z (HZ.out z HX.out).1 (HZ.out z HX.out).2 w)
      have HTL := Lib.hid (show t.length ≤ 10 from by rw [ht]; have h := HZ.out z HX.out; exact enc10 _ (zz_lt h.1 h.2))
      rw [← ht] at HT
      clear hx ht
      go_wp2_with fail
      refine wide_tail 4 (WrAt b b1 b2 50 85 (l ++ (zs.take k).flatMap (fun z : Int => enc (zz z))) w) (by kernel_rfl) (by kernel_rfl) (HW.out.next (below_drewOf (Below.refl _ _)) (by decide)) ?_
      simp only [List.take_succ_cons, List.take_zero, List.drop_succ_cons, List.drop_zero]
      repeat (first
      | go_big_quiet_skip
      | (go_big_quiet_want
         apply wide_op
         · (intro w5 h5; have x1 := h5.capt.out.cell (j := 0) rfl; have x2 := h5.capt.put.cell (j := 0) rfl; go_simp; first | done | with_reducible rfl | (refine (HP.out _).mono ?_; rintro e w6 ⟨rfl, hb6⟩; exact ⟨rfl, h5.next hb6 (by decide)⟩))
         (try simp only [Act.put, List.setIfInBounds_toArray, List.set_cons_zero, List.set_cons_succ])
         go_big_quiet_on))
      refine wpQuiet_nil ?_
      intro w6 h6
      have H6 := Lib.hid h6
      clear h6 q0
      have HWS := Lib.hid (Bld.writeString b (l ++ (zs.take k).flatMap (fun z : Int => enc (zz z))) ⟨t.toArray⟩ w6 H6.out.bld (by have h1 := HLK.out; have h2 := HTL.out; have h3 := HLEN.out; have : (⟨t.toArray⟩ : ByteArray).size = t.length := (key_bytes t).2; rw [this]; omega))
      go_wp2_with fail
      refine HWS.out.mono ?_
      rintro e w7 ⟨rfl, hU, hb7, ho7⟩
      have H7 := Lib.hid (show WrAt b b1 b2 50 85 (l ++ (zs.take (k + 1)).flatMap (fun z : Int => enc (zz z))) w w7 from ⟨by rw [HT.out, ← List.append_assoc]; have h := hU.at_; rw [(key_bytes t).1] at h; exact h, H6.out.capt.kp ⟨hb7, ho7⟩ (by decide), H6.out.kp.trans ⟨hb7, ho7⟩⟩)
      clear hU hb7 ho7
      go_wp2_with fail
      go_roundw
      case rel => exact ⟨k + 1, rfl, by omega, H7.out, by have h1 := HLK.out; have h2 := HTL.out; rw [HT.out]; simp only [List.length_append] at h1 ⊢; omega⟩
      case measure => simp [intOf]; omega
    · have hge : zs.length ≤ k := by omega
      have hk2 : k = zs.length := by omega
      have H7 := Lib.hid (show WrAt b b1 b2 50 85 (l ++ zs.flatMap (fun z : Int => enc (zz z))) w wr from by have h := HW.out; rwa [List.take_of_length_le hge] at h)
      go_wp2_with fail
      go_end0
      exact ⟨rfl, H7.out.bld, H7.out.kp⟩
set_option maxRecDepth 100000 in
set_option maxHeartbeats 4000000 in
theorem gpTexts (b b1 b2 a : Nat) (zs : List ByteArray) (c : Nat) (l : List UInt8) (w : World) (hB : Bld.At b l w) (hC : Capt b b1 b2 52 88 w) (hA : Lies a (zs.map Value.string).toArray 9 w) (hab : a ≠ b)
    (hz : ∀ z ∈ zs, z.size ≤ 16) (hlen : l.length + 26 * zs.length ≤ 1000000000) (hn : zs.length ≤ 1000) :
    Calls Try.prog 84 #[.slice (some ⟨a, 0, none⟩) zs.length c, .pointer (some ⟨b1, 0, none⟩), .pointer (some ⟨b2, 0, none⟩)] w fun e w' => e = .returned (.tuple #[]) ∧ Bld.At b (l ++ zs.flatMap (fun z : ByteArray => enc z.size ++ sl z)) w' ∧ Kp b w w' := by
  have HB := Lib.hid hB; have HC := Lib.hid hC; have HA := Lib.hid hA; have HZ := Lib.hid hz; have HLEN := Lib.hid hlen; have HAB := Lib.hid hab
  clear hB hC hA hz hlen hab
  go_enter Try.func84, Try.ntmps84
  go_wp2_with fail
  go_loopw [8] (fun i wr => ∃ k : Nat, i = .int .i64 k ∧ k ≤ zs.length ∧ WrAt b b1 b2 52 88 (l ++ (zs.take k).flatMap (fun z : ByteArray => enc z.size ++ sl z)) w wr ∧ (l ++ (zs.take k).flatMap (fun z : ByteArray => enc z.size ++ sl z)).length ≤ l.length + 26 * k) (fun i _ => zs.length - (intOf i).toNat)
  case atStart => exact ⟨0, rfl, Nat.zero_le _, by simp; exact ⟨HB.out, HC.out, Kp.refl _ _⟩, by simp⟩
  case round =>
    obtain ⟨k, rfl, hk, hW, hLk⟩ := hrel
    have HW := Lib.hid hW; have HLK := Lib.hid hLk
    clear hW hLk
    by_cases hlt : k < zs.length
    · obtain ⟨z, hx⟩ : ∃ z, zs[k]? = some z := ⟨_, List.getElem?_eq_getElem hlt⟩
      have q0 : wr.cell? ⟨a, k, none⟩ = some (Value.string z) := by
        have h := Lies.cell (HW.out.kp.lies HA.out HAB.out (by decide)) (j := k) (v := Value.string z) (by rw [List.getElem?_toArray, List.getElem?_map, hx]; rfl)
        exact h
      have HX := Lib.hid (List.mem_of_getElem? hx)
      have HT := Lib.hid (show (zs.take (k + 1)).flatMap (fun z : ByteArray => enc z.size ++ sl z) = (zs.take k).flatMap (fun z : ByteArray => enc z.size ++ sl z) ++ (fun z : ByteArray => enc z.size ++ sl z) z by rw [List.take_add_one, hx, List.flatMap_append]; simp)
      obtain ⟨t, ht⟩ : ∃ t, t = (fun z : ByteArray => enc z.size ++ sl z) z := ⟨_, rfl⟩
      have HP := Lib.hid (fun w => show Calls Try.prog 52 #[Value.string z] w (IsStr t w) from ht ▸ gpPutText z (by have := HZ.out z HX.out; omega) w)
      have HTL := Lib.hid (show t.length ≤ 26 from by rw [ht]; have h := HZ.out z HX.out; have := enc10 z.size (by omega); rw [List.length_append, sl_len]; omega)
      rw [← ht] at HT
      clear hx ht
      go_wp2_with fail
      refine wide_tail 4 (WrAt b b1 b2 52 88 (l ++ (zs.take k).flatMap (fun z : ByteArray => enc z.size ++ sl z)) w) (by kernel_rfl) (by kernel_rfl) (HW.out.next (below_drewOf (Below.refl _ _)) (by decide)) ?_
      simp only [List.take_succ_cons, List.take_zero, List.drop_succ_cons, List.drop_zero]
      repeat (first
      | go_big_quiet_skip
      | (go_big_quiet_want
         apply wide_op
         · (intro w5 h5; have x1 := h5.capt.out.cell (j := 0) rfl; have x2 := h5.capt.put.cell (j := 0) rfl; go_simp; first | done | with_reducible rfl | (refine (HP.out _).mono ?_; rintro e w6 ⟨rfl, hb6⟩; exact ⟨rfl, h5.next hb6 (by decide)⟩))
         (try simp only [Act.put, List.setIfInBounds_toArray, List.set_cons_zero, List.set_cons_succ])
         go_big_quiet_on))
      refine wpQuiet_nil ?_
      intro w6 h6
      have H6 := Lib.hid h6
      clear h6 q0
      have HWS := Lib.hid (Bld.writeString b (l ++ (zs.take k).flatMap (fun z : ByteArray => enc z.size ++ sl z)) ⟨t.toArray⟩ w6 H6.out.bld (by have h1 := HLK.out; have h2 := HTL.out; have h3 := HLEN.out; have : (⟨t.toArray⟩ : ByteArray).size = t.length := (key_bytes t).2; rw [this]; omega))
      go_wp2_with fail
      refine HWS.out.mono ?_
      rintro e w7 ⟨rfl, hU, hb7, ho7⟩
      have H7 := Lib.hid (show WrAt b b1 b2 52 88 (l ++ (zs.take (k + 1)).flatMap (fun z : ByteArray => enc z.size ++ sl z)) w w7 from ⟨by rw [HT.out, ← List.append_assoc]; have h := hU.at_; rw [(key_bytes t).1] at h; exact h, H6.out.capt.kp ⟨hb7, ho7⟩ (by decide), H6.out.kp.trans ⟨hb7, ho7⟩⟩)
      clear hU hb7 ho7
      go_wp2_with fail
      go_roundw
      case rel => exact ⟨k + 1, rfl, by omega, H7.out, by have h1 := HLK.out; have h2 := HTL.out; rw [HT.out]; simp only [List.length_append] at h1 ⊢; omega⟩
      case measure => simp [intOf]; omega
    · have hge : zs.length ≤ k := by omega
      have hk2 : k = zs.length := by omega
      have H7 := Lib.hid (show WrAt b b1 b2 52 88 (l ++ zs.flatMap (fun z : ByteArray => enc z.size ++ sl z)) w wr from by have h := HW.out; rwa [List.take_of_length_le hge] at h)
      go_wp2_with fail
      go_end0
      exact ⟨rfl, H7.out.bld, H7.out.kp⟩
end Grp
end Go.Proofs.Ythfbcfddfbipfaa
