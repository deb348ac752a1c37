/- Drop. -/
import Derived.Test.YtklgehfbfokdlaaTimDel
namespace Go.Proofs.Ytklgehfbfokdlaa
open Go.RowKit
set_option linter.unusedVariables false
namespace Tim
/-- The closed-up row is stored into the Heap. -/
theorem dropped_heap {M : Nat → Prop} {w w2 : World} {h g cap m : Nat} {d d' : List Tm} {v0 : Value} (H : HeapAt M w h d) (hl : Lies h #[v0] 50 w) (hg : M g) (hgh : g ≠ h)
    (ho : w2.ownsRow 0 27 2 (.slice (some ⟨g, 0, none⟩) m cap) m (tc d')) (hm : m = d'.length) (m2 : Mine (· = g) w w2) :
    HeapAt M (w2.setCell ⟨h, 0, none⟩ (.slice (some ⟨g, 0, none⟩) m cap)) h d' ∧ Mine M w (w2.setCell ⟨h, 0, none⟩ (.slice (some ⟨g, 0, none⟩) m cap)) := by
  subst hm
  have hl2 := m2.lies hl (fun e => hgh e.symm)
  have mm : Mine M w (w2.setCell ⟨h, 0, none⟩ (.slice (some ⟨g, 0, none⟩) d'.length cap)) := (m2.of_eq hg).trans (Mine.set _ (a := ⟨h, 0, none⟩) _ H.own)
  refine ⟨⟨H.own, fun k hk => Nat.lt_of_lt_of_le (H.lt k hk) mm.size, _, hl2.set 0 _, ?_, fun k hk => by cases hk; exact ⟨hg, hgh⟩⟩, mm⟩
  exact ownsRow_block ho fun k hk _ => by cases hk; exact Below.heap_setCell _ _ _ _ hgh
theorem others_perm {nm : List UInt8} {d l : List Tm} (h : d.Perm l) : (others nm d).Perm (others nm l) := h.filter _
theorem others_srt {nm : List UInt8} {l : List Tm} (h : Srt l) : Srt (others nm l) := List.Pairwise.filter _ h
theorem others_le (nm : List UInt8) (l : List Tm) : (others nm l).length ≤ l.length := List.length_filter_le _ _
theorem delF_nil (nm : List UInt8) (nb : Nat) (w : World) (hlie : Lies nb #[.string (kS nm)] 9 w) :
    Calls Try.prog 25 #[.slice none 0 0, .func (.func 26) #[] #[.pointer (some ⟨nb, 0, none⟩)]] w fun e w' => e = .returned (.slice none 0 0) ∧ Below w.heap.size w w' := by
  have hI := Lib.hid (idxF [] none 0 nm nb w Row.nil hlie (by simp))
  clear hlie
  go_enter Try.func25, Try.ntmps25
  go_wp2_with fail
  refine hI.out.mono ?_
  rintro e w1 ⟨hb1, ⟨p, rfl, hf⟩ | ⟨rfl, hno⟩⟩
  · exact absurd hf.lt (by simp)
  · have HB1 := Lib.hid hb1
    clear hb1 hno hI
    go_wp2_with fail
    go_ret
    exact ⟨rfl, HB1.out⟩
set_option maxHeartbeats 2000000 in
theorem tDrop (M : Nat → Prop) (h : Nat) (l : List Tm) (nm : List UInt8) (w : World) (H : Holds M w h l) (hl : l.length ≤ 100000) :
    Calls Try.prog 17 #[.pointer (some ⟨h, 0, none⟩), .string (kS nm)] w fun e w' =>
      e = .returned (.int .i64 ((l.length : Int) - ((others nm l).length : Int))) ∧ Holds M w' h (others nm l) ∧ Mine M w w' := by
  obtain ⟨d, h1, h2⟩ := H
  have HR := Lib.hid h2
  have HB1 := Lib.hid (below_al (o := .cells #[.string (kS nm)] 9) (Below.refl w.heap.size w))
  have HNB := Lib.hid (Lies.new w #[.string (kS nm)] 9)
  have HHL : Hid (∀ k, M k → k < w.heap.size) := Lib.hid h1.lt
  have hle := others_le nm l
  have hleo : (others nm d).length = (others nm l).length := (others_perm h2.perm).length_eq
  have hlen := h2.len
  have hmf : ∀ (fn : Fn) (first cap : Array Value) (w : World), (Instr.makeFunc fn first cap).run Try.prog w = .ok (.func fn first cap) w := fun _ _ _ _ => rfl
  have H1 := Lib.hid (h1.below HB1.out)
  obtain ⟨v, hlie, hown, hblk⟩ := H1.out.at_
  have hown' := hown
  rcases hown' with ⟨_, ⟨rfl, hd0⟩ | ⟨g, cap, cur, rfl, _, _, hnc, hcm, _⟩⟩
  · have hd1 : d = [] := List.eq_nil_of_length_eq_zero hd0
    subst hd1
    have hl0 : l = [] := List.eq_nil_of_length_eq_zero (by rw [← hlen]; rfl)
    subst hl0
    have HD := Lib.hid (delF_nil nm w.heap.size _ HNB.out)
    have hc := hlie.cell (j := 0) rfl
    have hf := hlie.free 0
    have hhl : h < (w.alloc (.cells #[.string (kS nm)] 9)).heap.size := lt_of_cell hc
    have HLie := Lib.hid hlie
    clear h1 h2 hlie hown hblk hd0 hle hleo hlen hl
    go_enter Try.func17, Try.ntmps17
    go_wp2_with first
      | (go_at_call 25
         refine HD.out.mono ?_
         rintro e w2 ⟨rfl, q1⟩
         have L2 := HLie.out.below q1
         have c2 := L2.cell (j := 0) rfl
         have f2 := L2.free 0
         have q2 : HeapAt M (w2.setCell ⟨h, 0, none⟩ (.slice none 0 0)) h [] ∧ Mine M (w.alloc (.cells #[.string (kS nm)] 9)) (w2.setCell ⟨h, 0, none⟩ (.slice none 0 0)) := by
           have mm := (Mine.up (M := M) q1).trans (Mine.set w2 (a := ⟨h, 0, none⟩) (.slice none 0 0) H1.out.own)
           exact ⟨⟨H1.out.own, fun k hk => Nat.lt_of_lt_of_le (H1.out.lt k hk) mm.size, _, L2.set 0 _, own_none, fun k hk => by cases hk⟩, mm⟩
         have Q := Lib.hid q2
         clear q1 q2 L2)
      | (go_at_call 27
         refine (hpInit M h [] _ Q.out.1 (by simp)).mono ?_
         rintro e w3 ⟨rfl, d3, h3, m3, p3, r3⟩
         obtain ⟨A, c, hc3⟩ := h3.cell0
         rw [r3.length_eq, List.length_nil] at hc3
         have H3 := Lib.hid h3
         have M3 := Lib.hid m3
         have P3 := Lib.hid p3
         have R3 := Lib.hid r3
         clear h3 m3 p3 r3)
    go_ret
    exact ⟨rfl, ⟨d3, H3.out, ⟨P3.out, R3.out, srt_nil⟩⟩, ((Mine.up HB1.out).trans Q.out.2).trans M3.out⟩
  · have hMg := (hblk g rfl).1
    have hgh := (hblk g rfl).2
    obtain ⟨n, hn⟩ : ∃ n, n = d.length := ⟨_, rfl⟩
    obtain ⟨m, hm⟩ : ∃ m, m = (others nm d).length := ⟨_, rfl⟩
    obtain ⟨nl, hnl⟩ : ∃ nl, nl = l.length := ⟨_, rfl⟩
    obtain ⟨ml, hml⟩ : ∃ ml, ml = (others nm l).length := ⟨_, rfl⟩
    have hbl : n ≤ 100000 := by rw [hn, hlen]; exact hl
    have hmn : m ≤ n := by rw [hm, hn]; exact others_le nm d
    have e1 : nl = n := by rw [hn, hnl, hlen]
    have e2 : ml = m := by rw [hm, hml, hleo]
    have HD := Lib.hid (delF d g cap nm w.heap.size (w.alloc (.cells #[.string (kS nm)] 9)) hown HNB.out (fun e => by have := HHL.out g hMg; omega) (by rw [← hn]; exact hbl))
    have hc := hlie.cell (j := 0) rfl
    have hf := hlie.free 0
    rw [← hn] at hc HD
    rw [← hm] at HD
    rw [← hnl, ← hml]
    have HLie := Lib.hid hlie
    have HM := Lib.hid hm
    have E1 := Lib.hid e1
    have E2 := Lib.hid e2
    have HG := Lib.hid hgh
    have HMG := Lib.hid hMg
    clear h1 h2 hlie hown hblk hgh hMg hn hm hnl hml e1 e2 hle hleo hlen hl hnc hcm
    have hhl : h < (w.alloc (.cells #[.string (kS nm)] 9)).heap.size := lt_of_cell hc
    go_enter Try.func17, Try.ntmps17
    go_wp2_with first
      | (go_at_call 25
         refine HD.out.mono ?_
         rintro e w2 ⟨rfl, q1, q2⟩
         have L2 := q2.lies HLie.out (fun e => HG.out e.symm)
         have c2 := L2.cell (j := 0) rfl
         have f2 := L2.free 0
         have Q := Lib.hid (dropped_heap H1.out HLie.out HMG.out HG.out q1 HM.out q2)
         clear q1 q2 L2)
      | (go_at_call 27
         refine (hpInit M h (others nm d) _ Q.out.1 (by rw [← HM.out]; omega)).mono ?_
         rintro e w3 ⟨rfl, d3, h3, m3, p3, r3⟩
         obtain ⟨A, c, hc3⟩ := h3.cell0
         rw [r3.length_eq, ← HM.out] at hc3
         have H3 := Lib.hid h3
         have M3 := Lib.hid m3
         have P3 := Lib.hid p3
         have R3 := Lib.hid r3
         clear h3 m3 p3 r3)
    go_ret
    exact ⟨by rw [E1.out, E2.out]; rfl, ⟨d3, H3.out, ⟨P3.out, R3.out.trans (others_perm HR.out.perm), others_srt HR.out.srt⟩⟩, ((Mine.up HB1.out).trans Q.out.2).trans M3.out⟩
end Tim
end Go.Proofs.Ytklgehfbfokdlaa
