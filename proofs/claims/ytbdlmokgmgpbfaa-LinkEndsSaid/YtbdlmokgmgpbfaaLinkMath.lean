/- Senders and receivers: what they make of bodies, packets, acknowledgements, ticks; a link on its way. No code. -/
import Derived.Test.YtbdlmokgmgpbfaaMem
namespace Go.Proofs.Ytbdlmokgmgpbfaa
set_option linter.unusedVariables false
namespace Lk
structure Sn where
  epoch : Int
  base : Int
  bodies : List ByteArray
  timer : Int
structure Rc where
  epoch : Int
  want : Int
structure Pk where
  epoch : Int
  no : Int
  body : ByteArray
def zS : Sn := ⟨0, 0, [], 0⟩
def zR : Rc := ⟨0, 0⟩
def zP : Pk := ⟨0, 0, ByteArray.empty⟩
def rightS (s : Sn) : Bool :=
  s.bodies.all (fun b => decide (b.size ≤ 4096)) && decide (s.bodies.length ≤ 8 ∧ 0 ≤ s.epoch ∧ s.epoch ≤ 1073741824 ∧ 0 ≤ s.base ∧ s.base + s.bodies.length ≤ 1073741824) &&
    (if s.bodies.length = 0 then decide (s.timer = 0) else decide (1 ≤ s.timer ∧ s.timer ≤ 4))
theorem right_iff (s : Sn) : rightS s = true ↔ (∀ b ∈ s.bodies, b.size ≤ 4096) ∧ s.bodies.length ≤ 8 ∧ (0 ≤ s.epoch ∧ s.epoch ≤ 1073741824) ∧ (0 ≤ s.base ∧ s.base + s.bodies.length ≤ 1073741824) ∧ (s.bodies.length = 0 → s.timer = 0) ∧ (0 < s.bodies.length → 1 ≤ s.timer ∧ s.timer ≤ 4) := by
  unfold rightS
  rw [Bool.and_eq_true, Bool.and_eq_true, List.all_eq_true, decide_eq_true_eq]
  constructor
  · rintro ⟨⟨h1, h2, h3, h4, h5, h6⟩, h7⟩
    refine ⟨fun b hb => of_decide_eq_true (h1 b hb), h2, ⟨h3, h4⟩, ⟨h5, h6⟩, fun h0 => ?_, fun h0 => ?_⟩
    · rw [if_pos h0] at h7; exact of_decide_eq_true h7
    · rw [if_neg (by omega)] at h7; exact of_decide_eq_true h7
  · rintro ⟨h1, h2, ⟨h3, h4⟩, ⟨h5, h6⟩, h7, h8⟩
    refine ⟨⟨fun b hb => decide_eq_true (h1 b hb), h2, h3, h4, h5, h6⟩, ?_⟩
    by_cases h0 : s.bodies.length = 0
    · rw [if_pos h0]; exact decide_eq_true (h7 h0)
    · rw [if_neg h0]; exact decide_eq_true (h8 (by omega))
def pushO (s : Sn) (body : ByteArray) : Sn × Pk × Int :=
  if rightS s = false then (zS, zP, 1) else if 4096 < body.size then (zS, zP, 2)
  else if s.bodies.length = 8 ∨ s.base + s.bodies.length = 1073741824 then (zS, zP, 3)
  else (⟨s.epoch, s.base, s.bodies ++ [body], if s.bodies.length = 0 then 4 else s.timer⟩, ⟨s.epoch, s.base + s.bodies.length, body⟩, 0)
def ackO (s : Sn) (epoch want : Int) : Sn × Int :=
  if rightS s = false then (zS, 1) else if epoch ≠ s.epoch then (zS, 150) else if s.base + s.bodies.length < want then (zS, 1)
  else if want ≤ s.base then (s, 0)
  else (⟨s.epoch, want, s.bodies.drop (want - s.base).toNat, if s.base + s.bodies.length = want then 0 else 4⟩, 0)
/-- The packets of bodies, from a number on. -/
def packs (epoch : Int) : Int → List ByteArray → List Pk
  | _, [] => []
  | no, b :: l => ⟨epoch, no, b⟩ :: packs epoch (no + 1) l
def tickO (s : Sn) : Sn × List Pk :=
  if rightS s = false ∨ s.bodies.length = 0 then (s, []) else if 1 < s.timer then ({ s with timer := s.timer - 1 }, [])
  else ({ s with timer := 4 }, packs s.epoch s.base s.bodies)
def takeO (r : Rc) (p : Pk) : Rc × Bool × Int :=
  if ¬ ((0 ≤ r.epoch ∧ r.epoch ≤ 1073741824) ∧ (0 ≤ r.want ∧ r.want ≤ 1073741824) ∧ (0 ≤ p.no ∧ p.no ≤ 1073741824) ∧ p.body.size ≤ 4096) then (zR, false, 1)
  else if p.epoch ≠ r.epoch then (zR, false, 150)
  else if p.no = r.want ∧ r.want < 1073741824 then (⟨r.epoch, r.want + 1⟩, true, 0) else (r, false, 0)
theorem packs_len (e : Int) : ∀ (n : Int) (l : List ByteArray), (packs e n l).length = l.length
  | _, [] => rfl
  | n, _ :: l => by rw [packs, List.length_cons, packs_len e (n + 1) l, List.length_cons]
theorem packs_get (e : Int) : ∀ (n : Int) (l : List ByteArray) (k : Nat) (b : ByteArray), l[k]? = some b → (packs e n l)[k]? = some ⟨e, n + k, b⟩
  | _, [], _, _, h => by simp at h
  | n, a :: l, 0, b, h => by
    rw [packs, List.getElem?_cons_zero]
    rw [List.getElem?_cons_zero] at h
    obtain rfl := Option.some.inj h
    simp
  | n, a :: l, k + 1, b, h => by
    rw [packs, List.getElem?_cons_succ]
    rw [List.getElem?_cons_succ] at h
    rw [packs_get e (n + 1) l k b h]
    congr 2
    omega
theorem mem_packs (e : Int) : ∀ (n : Int) (l : List ByteArray) (x : Pk), x ∈ packs e n l → ∃ k b, l[k]? = some b ∧ x = ⟨e, n + (k : Nat), b⟩
  | _, [], _, h => by simp [packs] at h
  | n, a :: l, x, h => by
    rcases List.mem_cons.1 h with h | h
    · exact ⟨0, a, rfl, by rw [h]; simp⟩
    · obtain ⟨k, b, h1, h2⟩ := mem_packs e (n + 1) l x h
      refine ⟨k + 1, b, h1, ?_⟩
      rw [h2]
      congr 1
      omega
/-- What is pushed is right again. -/
theorem push_right {s : Sn} {b : ByteArray} (h : rightS s = true) (hb : b.size ≤ 4096) (h8 : s.bodies.length ≠ 8) (hm : s.base + s.bodies.length ≠ 1073741824) :
    rightS (⟨s.epoch, s.base, s.bodies ++ [b], if s.bodies.length = 0 then 4 else s.timer⟩ : Sn) = true := by
  rw [right_iff] at h ⊢
  obtain ⟨h1, h2, h3, h4, h5, h6⟩ := h
  simp only [List.length_append, List.length_cons, List.length_nil]
  refine ⟨fun x hx => ?_, by omega, h3, by omega, fun h => by omega, fun _ => ?_⟩
  · rcases List.mem_append.1 hx with hx | hx
    · exact h1 x hx
    · simp only [List.mem_singleton] at hx; rw [hx]; exact hb
  · by_cases h0 : s.bodies.length = 0
    · rw [if_pos h0]; omega
    · rw [if_neg h0]; exact h6 (by omega)
theorem ack_right {s : Sn} {want : Int} (h : rightS s = true) (h1 : s.base < want) (h2 : want ≤ s.base + s.bodies.length) :
    rightS (⟨s.epoch, want, s.bodies.drop (want - s.base).toNat, if s.base + s.bodies.length = want then 0 else 4⟩ : Sn) = true := by
  rw [right_iff] at h ⊢
  obtain ⟨g1, g2, g3, g4, g5, g6⟩ := h
  simp only [List.length_drop]
  refine ⟨fun x hx => g1 x (List.mem_of_mem_drop hx), by omega, g3, by omega, fun h0 => ?_, fun h0 => ?_⟩
  · rw [if_pos (by omega)]
  · rw [if_neg (by omega)]; omega
theorem tick_right {s : Sn} (h : rightS s = true) : rightS (tickO s).1 = true := by
  unfold tickO
  by_cases h0 : rightS s = false ∨ s.bodies.length = 0
  · rw [if_pos h0]; exact h
  · rw [if_neg h0]
    have hh := h
    rw [right_iff] at h
    obtain ⟨g1, g2, g3, g4, g5, g6⟩ := h
    by_cases h1 : 1 < s.timer
    · rw [if_pos h1, right_iff]
      exact ⟨g1, g2, g3, g4, fun e => absurd (Or.inr e) h0, fun e => by have := g6 e; show 1 ≤ s.timer - 1 ∧ s.timer - 1 ≤ 4; omega⟩
    · rw [if_neg h1, right_iff]
      exact ⟨g1, g2, g3, g4, fun e => absurd (Or.inr e) h0, fun e => by show (1 : Int) ≤ 4 ∧ (4 : Int) ≤ 4; omega⟩
theorem tick_same (s : Sn) : (tickO s).1.epoch = s.epoch ∧ (tickO s).1.base = s.base ∧ (tickO s).1.bodies = s.bodies := by
  unfold tickO
  split
  · exact ⟨rfl, rfl, rfl⟩
  · split <;> exact ⟨rfl, rfl, rfl⟩
theorem tick_sent (s : Sn) : (tickO s).2 = [] ∨ (tickO s).2 = packs s.epoch s.base s.bodies := by
  unfold tickO
  split
  · exact .inl rfl
  · split
    · exact .inl rfl
    · exact .inr rfl
/-- To acknowledge up to a place, then up to a later one. -/
theorem ack_ok {s : Sn} (h : rightS s = true) {want : Int} (h1 : s.base ≤ want) (h2 : want ≤ s.base + s.bodies.length) :
    ackO s s.epoch want = (if want = s.base then s else ⟨s.epoch, want, s.bodies.drop (want - s.base).toNat, if s.base + s.bodies.length = want then 0 else 4⟩, 0) := by
  unfold ackO
  rw [if_neg (by rw [h]; simp), if_neg (by simp), if_neg (by omega)]
  by_cases e : want = s.base
  · rw [if_pos (by omega), if_pos e]
  · rw [if_neg (by omega), if_neg e]
theorem acks {s : Sn} (h : rightS s = true) {a b : Int} (h1 : s.base ≤ a) (h2 : a ≤ b) (h3 : b ≤ s.base + s.bodies.length) :
    ackO (ackO s s.epoch a).1 s.epoch b = ackO s s.epoch b ∧ (ackO s s.epoch a).2 = 0 ∧ (ackO s s.epoch b).2 = 0 ∧ ackO (ackO s s.epoch b).1 s.epoch a = ackO s s.epoch b ∧ ((ackO s s.epoch b).1.bodies.length : Int) = s.base + s.bodies.length - b := by
  have ea := ack_ok h h1 (by omega)
  have eb := ack_ok h (by omega : s.base ≤ b) h3
  rw [ea, eb]
  refine ⟨?_, rfl, rfl, ?_, ?_⟩
  · by_cases e : a = s.base
    · rw [if_pos e]; exact eb
    · rw [if_neg e, if_neg (show ¬ b = s.base by omega)]
      have hr := ack_right h (by omega : s.base < a) (by omega)
      have hlen : ((s.bodies.drop (a - s.base).toNat).length : Int) = s.base + s.bodies.length - a := by rw [List.length_drop]; omega
      have ek := ack_ok hr (show a ≤ b from h2) (show b ≤ a + ((s.bodies.drop (a - s.base).toNat).length : Int) by omega)
      simp only at ek
      rw [ek]
      by_cases e2 : b = a
      · rw [if_pos e2, e2]
      · rw [if_neg e2, List.drop_drop]
        have e3 : (a - s.base).toNat + (b - a).toNat = (b - s.base).toNat := by omega
        have e4 : (a + ((s.bodies.drop (a - s.base).toNat).length : Int) = b) = (s.base + (s.bodies.length : Int) = b) := by rw [hlen]; apply propext; constructor <;> intro h <;> omega
        simp only [e3, e4]
  · by_cases e : b = s.base
    · have e2 : a = s.base := by omega
      rw [if_pos e, ack_ok h (by omega : s.base ≤ a) (by omega), if_pos e2]
    · rw [if_neg e]
      have hr := ack_right h (by omega : s.base < b) h3
      unfold ackO
      have hlen : ((s.bodies.drop (b - s.base).toNat).length : Int) = s.base + s.bodies.length - b := by rw [List.length_drop]; omega
      rw [if_neg (by rw [hr]; simp), if_neg (by simp), if_neg (by simp only; omega), if_pos h2]
  · by_cases e : b = s.base
    · rw [if_pos e]; show (s.bodies.length : Int) = _; omega
    · rw [if_neg e]; show ((s.bodies.drop (b - s.base).toNat).length : Int) = _; rw [List.length_drop]; omega
end Lk
end Go.Proofs.Ytbdlmokgmgpbfaa
