/- upwards: the points with their workers, rising. -/
import Derived.Test.YtgpcbiballdioaaDoorRingSort
import Derived.Test.YtgpcbiballdioaaDoorRingKeys
import Derived.Sort.BigQuietIn
namespace Go.Proofs.YtgpcbiballdioaaDoor
open Go.RowKit Go.Shelf
set_option linter.unusedVariables false
set_option maxRecDepth 8000
attribute [local go_sem] Oper.semAt_some
namespace Rg
def ups (m : Nat → Int) (ys : List Nat) : List (Nat × Int) := ys.map fun h => (h, m h)
/-- What the function value is worth: the row of points in its box, the map in its box. -/
structure UpAt (w : World) (p1 p2 b nn : Nat) (m : Nat → Int) (ys : List Nat) : Prop where
  pos : ∃ g cap, Boxed w p1 52 (.slice (some ⟨g, 0, none⟩) ys.length cap) ∧ ∀ (t x : Nat), ys[t]? = some x → w.cell? ⟨g, t, none⟩ = some (u32 x)
  map : Boxed w p2 41 (.map (some b))
  has : HasP w b nn m
  ok : OkS m ys
  few : ys.length ≤ 64
theorem HasP.stay {w w' : World} {b nn : Nat} {m : Nat → Int} (H : HasP w b nn m) (hb : w'.heap[b]? = w.heap[b]?) : HasP w' b nn m := by
  obtain ⟨D, ⟨es, clock, g1, g2⟩, h2⟩ := H
  exact ⟨D, ⟨es, clock, hb.trans g1, g2⟩, h2⟩
theorem cell_stay {w w' : World} {g t : Nat} {v : Value} (h : w.cell? ⟨g, t, none⟩ = some v) (hb : w'.heap[g]? = w.heap[g]?) : w'.cell? ⟨g, t, none⟩ = some v := by
  simp only [World.cell?] at h ⊢
  rw [hb]; exact h
theorem UpAt.stay {w w' : World} {p1 p2 b nn : Nat} {m : Nat → Int} {ys : List Nat} (h : UpAt w p1 p2 b nn m ys) (hb : ∀ k, k < w.heap.size → w'.heap[k]? = w.heap[k]?) : UpAt w' p1 p2 b nn m ys := by
  obtain ⟨g, cap, h1, h2⟩ := h.pos
  exact ⟨⟨g, cap, (hb _ h1.lt).trans h1, fun t x hx => cell_stay (h2 t x hx) (hb g (lt_of_cell (h2 t x hx)))⟩, (hb _ h.map.lt).trans h.map, h.has.stay (hb b h.has.lt), h.ok, h.few⟩
def GivesUp (nn : Nat) (m : Nat → Int) (b : Nat) (w : World) (e : Ending) (w' : World) : Prop :=
  ∃ p1 p2 ys, e = .returned (.func (.func 25) #[] #[.pointer (some ⟨p1, 0, none⟩), .pointer (some ⟨p2, 0, none⟩)]) ∧ UpAt w' p1 p2 b nn m ys ∧ Below w.heap.size w w'
set_option maxRecDepth 100000 in
set_option maxHeartbeats 1000000 in
theorem ckUp (b nn : Nat) (m : Nat → Int) (w : World) (hp : HasP w b nn m) (hn : nn ≤ 64) (hne : ∃ h, h < 4294967296 ∧ m h ≠ 0) :
    Calls Tryd.prog 16 #[.map (some b)] w (GivesUp nn m b w) := by
  have hb := hp.lt
  have HK := Lib.hid (fun w => ckKeys b w)
  have HS := Lib.hid (fun w1 h1 h2 => ckSorted (w.heap.size + 1) b nn m w1 h1 h2 hn hne)
  have HP := Lib.hid hp
  clear hp hne
  go_enter Tryd.func16, Tryd.ntmps16
  go_wp2_with fail
  refine (HK.out _).mono ?_
  rintro e w1 ⟨rfl, rfl⟩
  rw [World.size_alloc]
  go_wp2_with fail
  have hbm : Boxed ((w.alloc (.cells #[.map (some b)] 41)).alloc (.cells #[.map (some b)] 41)) (w.heap.size + 1) 41 (.map (some b)) := by
    have := Boxed.new (w.alloc (.cells #[.map (some b)] 41)) 41 (.map (some b))
    rwa [World.size_alloc] at this
  have hbp : Boxed ((w.alloc (.cells #[.map (some b)] 41)).alloc (.cells #[.map (some b)] 41)) w.heap.size 41 (.map (some b)) := (Boxed.new w _ _).alloc _
  have hh : HasP ((w.alloc (.cells #[.map (some b)] 41)).alloc (.cells #[.map (some b)] 41)) b nn m := (HP.out.keep (al_below _ _)).keep (al_below _ _)
  obtain ⟨w2, hw2⟩ : ∃ w2, w2 = (w.alloc (.cells #[.map (some b)] 41)).alloc (.cells #[.map (some b)] 41) := ⟨_, rfl⟩
  have hb2 : Below w.heap.size w w2 := by rw [hw2]; exact ((Below.refl _ w).alloc (Nat.le_refl _) _).alloc (by simp) _
  rw [← hw2] at hbm hbp hh ⊢
  have HB2 := Lib.hid hb2
  have HBP := Lib.hid hbp
  have HH := Lib.hid hh
  have HSS := Lib.hid (HS.out w2 hbm hh)
  clear hw2 hbm hbp hh hb2
  refine HSS.out.mono ?_
  rintro e w3 ⟨g, cap, ys, rfl, h1, h2, h3, h4, h5, h6⟩
  have HR3 := Lib.hid h3
  have H6 := Lib.hid h6
  have HO := Lib.hid h1
  have HW3 := Lib.hid (And.intro h4 h5)
  clear h1 h3 h4 h5 h6 HSS
  go_wp2_with fail
  go_ret
  have hbx : Boxed (w3.alloc (.cells #[.slice (some ⟨g, 0, none⟩) ys.length cap] 52)) w3.heap.size 52 (.slice (some ⟨g, 0, none⟩) ys.length cap) := Boxed.new w3 _ _
  have hst : ∀ k, k < w3.heap.size → (w3.alloc (.cells #[.slice (some ⟨g, 0, none⟩) ys.length cap] 52)).heap[k]? = w3.heap[k]? := fun k hk => Below.heap_alloc w3 _ k hk
  have hmp : Boxed w3 w.heap.size 41 (.map (some b)) := (H6.out.block _ HBP.out.lt).trans HBP.out
  refine ⟨w3.heap.size, w.heap.size, ys, rfl, ⟨⟨g, cap, hbx, fun t x hx => cell_stay (HR3.out t x hx) (hst g HW3.out.2)⟩, (hst _ hmp.lt).trans hmp, (HH.out.keep H6.out).stay (hst b (HH.out.keep H6.out).lt), HO.out, h2⟩, ?_⟩
  exact below_next HB2.out (below_next H6.out (al_below _ _))
theorem ups_len (m : Nat → Int) (ys : List Nat) : (ups m ys).length = ys.length := List.length_map ..
theorem ups_split (m : Nat → Int) {ys : List Nat} {k x : Nat} (h : ys[k]? = some x) : ups m ys = (ups m ys).take k ++ (x, m x) :: (ups m ys).drop (k + 1) := by
  obtain ⟨hk, rfl⟩ := List.getElem?_eq_some_iff.1 h
  conv => lhs; rw [← List.take_append_drop k (ups m ys)]
  rw [List.drop_eq_getElem_cons (by rw [ups_len]; exact hk)]
  simp [ups]
theorem ups_next (m : Nat → Int) {ys : List Nat} {k x : Nat} (h : ys[k]? = some x) : (ups m ys).take k ++ [(x, m x)] = (ups m ys).take (k + 1) := by
  rw [List.take_add_one]
  unfold ups
  rw [List.getElem?_map, h]; rfl
def upE (x : Nat × Int) : Array Value := #[.int .u32 (x.1 : Int), .int .i64 x.2]
set_option maxRecDepth 100000 in
set_option maxHeartbeats 2000000 in
theorem up_feeds (F : Fence) (hF : Over.Wide F) (n : Nat) (hn : 1 ≤ n) (p1 p2 b nn : Nat) (m : Nat → Int) (ys : List Nat) (w : World) (hu : UpAt w p1 p2 b nn m ys) :
    Over.Feeds F n Tryd.prog 25 #[.pointer (some ⟨p1, 0, none⟩), .pointer (some ⟨p2, 0, none⟩)] upE (ups m ys) w := by
  intro l J Jx M W hW hJ hJx hM hY h0
  have hfn := hF.fn 25
  have hro : F.round = none := hF.ro
  obtain ⟨g, cap, hp1, hcl⟩ := hu.pos
  have b1 : Boxed W p1 52 (.slice (some ⟨g, 0, none⟩) ys.length cap) := (hW.block _ hp1.lt).trans hp1
  have c1 := b1.cell
  have hp1lt := hp1.lt
  have hsz := hW.size
  have HY := Lib.hid hY
  have HJ := Lib.hid hJ
  have HJx := Lib.hid hJx
  have HM := Lib.hid hM
  have HU := Lib.hid hu
  have HW := Lib.hid hW
  have HCL := Lib.hid hcl
  have H0 := Lib.hid h0
  have hfew := hu.few
  clear hY hJ hJx hM hu hp1 hcl hW h0
  refine callsIn_of_wp Tryd.func25 rfl hfn ?_ hro
  simp only [Tryd.ntmps25, List.size_toArray, List.length_cons, List.length_nil, Nat.reduceAdd, Nat.reduceSub, Array.replicate_succ, Array.replicate_zero, List.push_toArray, List.append_toArray, List.nil_append, List.cons_append]
  gi_wp2
  gi_loopw [5, 8] (fun _ s8 wr => ∃ k : Nat, s8 = .int .i64 k ∧ k ≤ ys.length ∧ J M ((ups m ys).take k) wr ∧ Over.Kept w.heap.size M W wr) (fun _ s8 _ => ys.length - (intOf s8).toNat)
  case atStart => exact ⟨0, rfl, Nat.zero_le _, H0.out, Over.Kept.refl _ _ _⟩
  case round =>
    obtain ⟨k, rfl, hk, hj, hkp⟩ := hrel
    have HJ1 := Lib.hid hj; have HK := Lib.hid hkp
    clear hj hkp
    by_cases hlt : k < ys.length
    · obtain ⟨x, hx⟩ : ∃ x, ys[k]? = some x := ⟨_, List.getElem?_eq_getElem hlt⟩
      have hxm := (HU.out.ok.2 x).1 (List.mem_of_getElem? hx)
      obtain ⟨hxl, hx0⟩ := hxm
      have hur : UpAt wr p1 p2 b nn m ys := HU.out.stay fun q hq => (HK.out.block q (by omega) (.inl hq)).trans (HW.out.block q hq)
      have c2 : wr.cell? ⟨g, k, none⟩ = some (.int .u32 (x : Int)) := by
        have h1 := HCL.out k x hx
        have h2 : g < w.heap.size := lt_of_cell h1
        exact cell_stay h1 ((HK.out.block g (by omega) (.inl h2)).trans (HW.out.block g h2))
      have c3 := hur.map.cell
      have L := hur.has.look_one hxl hx0
      have hp2lt := hur.map.lt
      have hgl : g < wr.heap.size := lt_of_cell c2
      obtain ⟨y, hy⟩ : ∃ y, y = m x := ⟨_, rfl⟩
      rw [← hy] at L
      obtain ⟨fn, tmps, assign, body, hyl, hR⟩ := HY.out M ((ups m ys).take k) (x, m x) _ wr (ups_split m hx) HJ1.out
      have HR := Lib.hid hR
      have HX := Lib.hid hx
      simp only [upE, ← hy] at hyl
      have HYE := Lib.hid hy
      clear hR hx hur hxl hx0 hy
      gi_wp2
      refine HR.out.mono ?_
      rintro e W3 ⟨h3, hk3⟩
      have HK4 := Lib.hid (HK.out.trans hk3)
      rcases h3 with ⟨rfl, h3⟩ | ⟨rfl, h3⟩
      · rw [ups_next m HX.out] at h3
        have H3 := Lib.hid h3
        clear h3 hk3 hyl c2 c3 L
        gi_wp2
        go_roundw
        case rel => exact ⟨k + 1, by go_num, by omega, H3.out, HK4.out⟩
        case measure => simp [intOf]; omega
      · have H3 := Lib.hid h3
        clear h3 hk3 hyl c2 c3 L
        gi_wp2
        refine bodyPost_ret (results_none rfl _ _ _) rfl ?_
        exact ⟨⟨_, rfl⟩, .inr ⟨_, ⟨_, by rw [List.append_assoc]; exact (ups_split m HX.out).symm⟩, H3.out⟩⟩
    · have hge : ys.length ≤ k := by omega
      have HE := Lib.hid (show (ups m ys).take k = ups m ys from List.take_of_length_le (by rw [ups_len]; exact hge))
      gi_wp2
      go_end0
      refine ⟨⟨_, rfl⟩, .inl ?_⟩
      rw [← HE.out]; exact HJ1.out
end Rg
end Go.Proofs.YtgpcbiballdioaaDoor
