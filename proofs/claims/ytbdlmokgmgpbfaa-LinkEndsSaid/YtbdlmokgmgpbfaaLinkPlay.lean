/- A link on its way: what happens to it, what stays true of it. No code. -/
import Derived.Test.YtbdlmokgmgpbfaaLinkMath
namespace Go.Proofs.Ytbdlmokgmgpbfaa
set_option linter.unusedVariables false
namespace Lk
/-- A link on its way. -/
structure Wy where
  s : Sn
  r : Rc
  way : List Pk
  put : List ByteArray
  got : List ByteArray
  ok : Bool
  wants : List Int
structure Ac where
  what : Int
  which : Int
  body : ByteArray
def tellO (p : Wy) (x : Pk) : Wy :=
  if (takeO p.r x).2.2 ≠ 0 then { p with ok := false }
  else { p with r := (takeO p.r x).1, got := if (takeO p.r x).2.1 then p.got ++ [x.body] else p.got, wants := p.wants ++ [(takeO p.r x).1.want] }
def idx (which : Int) (n : Nat) : Nat := ((which.tmod n + n).tmod n).toNat
theorem idx_lt (which : Int) {n : Nat} (h : 0 < n) : idx which n < n := by
  unfold idx
  have h1 : -(n : Int) < which.tmod n := by
    rcases Int.le_total 0 which with h0 | h0
    · rw [Int.tmod_eq_emod_of_nonneg h0]; have := Int.emod_nonneg which (show (n : Int) ≠ 0 by omega); omega
    · have e : which = -(-which) := by omega
      rw [e, Int.neg_tmod, Int.tmod_eq_emod_of_nonneg (by omega)]
      have := Int.emod_lt_of_pos (-which) (show 0 < (n : Int) by omega)
      omega
  have h2 := Int.tmod_lt_of_pos (which.tmod n + n) (show 0 < (n : Int) by omega)
  have h3 := Int.tmod_nonneg (n : Int) (show 0 ≤ which.tmod n + n by omega)
  omega
def cut100 (b : ByteArray) : ByteArray := if 100 < b.size then b.extract 0 100 else b
theorem cut100_size (b : ByteArray) : (cut100 b).size ≤ 100 := by
  unfold cut100
  split
  · rw [ByteArray.size_extract]; omega
  · omega
def pushW (p : Wy) (b : ByteArray) : Wy :=
  if (pushO p.s b).2.2 = 3 then { p with ok := p.ok && decide (p.s.bodies.length = 8) }
  else { p with ok := p.ok && decide ((pushO p.s b).2.2 = 0), s := (pushO p.s b).1, way := p.way ++ [(pushO p.s b).2.1], put := p.put ++ [b] }
def ackW (p : Wy) (v : Int) : Wy :=
  if (ackO p.s p.s.epoch v).2 = 0 then { p with s := (ackO p.s p.s.epoch v).1 } else { p with ok := false }
def tickW (p : Wy) : Wy := { p with s := (tickO p.s).1, way := if p.way.length < 100 then p.way ++ (tickO p.s).2 else p.way }
def xB : ByteArray := ⟨#[120]⟩
def farW (p : Wy) (k : Int) : Wy :=
  { p with ok := p.ok && (decide ((takeO p.r ⟨p.r.epoch + 1 + k, p.r.want, xB⟩).2.2 = 150) && !(takeO p.r ⟨p.r.epoch + 1 + k, p.r.want, xB⟩).2.1 && decide ((takeO p.r ⟨p.r.epoch + 1 + k, p.r.want, xB⟩).1.epoch = 0 ∧ (takeO p.r ⟨p.r.epoch + 1 + k, p.r.want, xB⟩).1.want = 0)) }
def doO (p : Wy) (a : Ac) : Wy :=
  if a.what = 0 then pushW p (cut100 a.body)
  else if a.what = 4 then (match p.wants[idx a.which p.wants.length]? with | none => p | some v => ackW p v)
  else if a.what = 5 then tickW p
  else if 1 ≤ a.what ∧ a.what ≤ 3 then
    (match p.way[idx a.which p.way.length]? with
    | none => p
    | some x => if a.what = 1 then { tellO p x with way := p.way.eraseIdx (idx a.which p.way.length) } else if a.what = 2 then tellO p x else { p with way := p.way.eraseIdx (idx a.which p.way.length) })
  else farW p (idx a.which 3)
/-- What stays true of it. -/
structure Inv (ep : Int) (n : Nat) (p : Wy) : Prop where
  e0 : 0 ≤ ep ∧ ep ≤ 536870912
  ok : p.ok = true
  right : rightS p.s = true
  se : p.s.epoch = ep
  re : p.r.epoch = ep
  bod : p.s.bodies = p.put.drop p.s.base.toNat
  sum : p.s.base + p.s.bodies.length = p.put.length
  bw : p.s.base ≤ p.r.want
  want : p.r.want = p.got.length
  got : p.got = p.put.take p.got.length
  gl : p.got.length ≤ p.put.length
  few : p.put.length ≤ n
  small : ∀ b ∈ p.put, b.size ≤ 100
  way : ∀ x ∈ p.way, x.epoch = ep ∧ ∃ k : Nat, x.no = k ∧ p.put[k]? = some x.body
  wants : ∀ v ∈ p.wants, 0 ≤ v ∧ v ≤ p.r.want
  wl : p.way.length ≤ 108 + n
  wn : p.wants.length ≤ n
theorem Inv.base0 {ep : Int} {n : Nat} {p : Wy} (h : Inv ep n p) : 0 ≤ p.s.base := ((right_iff _).1 h.right).2.2.2.1.1
theorem Inv.up {ep : Int} {n : Nat} {p : Wy} (h : Inv ep n p) : Inv ep (n + 1) p :=
  ⟨h.e0, h.ok, h.right, h.se, h.re, h.bod, h.sum, h.bw, h.want, h.got, h.gl, Nat.le_succ_of_le h.few, h.small, h.way, h.wants, by have := h.wl; omega, Nat.le_succ_of_le h.wn⟩
theorem inv_start {ep : Int} (h : 0 ≤ ep ∧ ep ≤ 536870912) : Inv ep 0 ⟨⟨ep, 0, [], 0⟩, ⟨ep, 0⟩, [], [], [], true, []⟩ :=
  ⟨h, rfl, by rw [right_iff]; exact ⟨fun _ hb => by simp at hb, by simp, by simp only; omega, by simp, by simp, by simp⟩, rfl, rfl, rfl, rfl, Int.le_refl _, rfl, rfl, Nat.le_refl _, Nat.le_refl _, fun _ hb => by simp at hb, fun _ hx => by simp at hx, fun _ hv => by simp at hv, by simp, by simp⟩
/-- What is taken of a packet that may be. -/
theorem take_ok {ep : Int} {n : Nat} {p : Wy} (h : Inv ep n p) (hn : n ≤ 1000) {x : Pk} (hx : x.epoch = ep ∧ ∃ k : Nat, x.no = k ∧ p.put[k]? = some x.body) :
    takeO p.r x = if x.no = p.r.want then (⟨ep, p.r.want + 1⟩, true, 0) else (p.r, false, 0) := by
  obtain ⟨h1, k, h2, h3⟩ := hx
  have hk := (List.getElem?_eq_some_iff.1 h3).1
  have hb := h.small _ (List.mem_of_getElem? h3)
  have e0 := h.e0; have hw := h.want; have hg := h.gl; have hf := h.few; have hre := h.re
  unfold takeO
  rw [if_neg (by simp only [Classical.not_not]; rw [hre, h2, hw]; omega), if_neg (by rw [hre]; exact not_not_intro h1)]
  by_cases e : x.no = p.r.want
  · rw [if_pos ⟨e, by rw [hw]; omega⟩, if_pos e, hre]
  · rw [if_neg (fun hh => e hh.1), if_neg e]
theorem tell_inv {ep : Int} {n : Nat} {p : Wy} (h : Inv ep n p) (hn : n ≤ 1000) {x : Pk} (hx : x.epoch = ep ∧ ∃ k : Nat, x.no = k ∧ p.put[k]? = some x.body) :
    Inv ep (n + 1) (tellO p x) ∧ (tellO p x).way = p.way ∧ (tellO p x).put = p.put ∧ (tellO p x).s = p.s ∧ (tellO p x).r.want = (if x.no = p.r.want then p.r.want + 1 else p.r.want) := by
  have ht := take_ok h hn hx
  obtain ⟨h1, k, h2, h3⟩ := hx
  have hk := (List.getElem?_eq_some_iff.1 h3).1
  unfold tellO
  rw [ht]
  have e0 := h.e0; have hw := h.want; have hg := h.gl; have hf := h.few; have hbw := h.bw; have hwn := h.wn; have hwl := h.wl
  by_cases e : x.no = p.r.want
  · simp only [if_pos e, ne_eq, not_true_eq_false, if_false, if_true]
    have hkl : k = p.got.length := by omega
    have hgt : p.got ++ [x.body] = p.put.take (p.got.length + 1) := by rw [List.take_add_one, ← h.got, ← hkl, h3]; rfl
    refine ⟨⟨h.e0, h.ok, h.right, h.se, rfl, h.bod, h.sum, by show p.s.base ≤ p.r.want + 1; omega, by show p.r.want + 1 = ((p.got ++ [x.body]).length : Int); simp; omega, by show p.got ++ [x.body] = p.put.take (p.got ++ [x.body]).length; rw [List.length_append]; exact hgt, by show (p.got ++ [x.body]).length ≤ _; simp; omega, by show p.put.length ≤ _; omega, h.small, h.way, ?_, by show p.way.length ≤ _; omega, by show (p.wants ++ [p.r.want + 1]).length ≤ _; simp; omega⟩, by simp⟩
    intro v hv
    rcases List.mem_append.1 hv with hv | hv
    · have := h.wants v hv; show 0 ≤ v ∧ v ≤ p.r.want + 1; omega
    · simp only [List.mem_singleton] at hv
      show 0 ≤ v ∧ v ≤ p.r.want + 1
      omega
  · simp only [if_neg e, ne_eq, not_true_eq_false, if_false, Bool.false_eq_true]
    refine ⟨⟨h.e0, h.ok, h.right, h.se, h.re, h.bod, h.sum, h.bw, h.want, h.got, h.gl, by show p.put.length ≤ _; omega, h.small, h.way, ?_, by show p.way.length ≤ _; omega, by show (p.wants ++ [p.r.want]).length ≤ _; simp; omega⟩, by simp⟩
    intro v hv
    rcases List.mem_append.1 hv with hv | hv
    · exact h.wants v hv
    · simp only [List.mem_singleton] at hv
      show 0 ≤ v ∧ v ≤ p.r.want
      omega
/-- Another way, out of the same. -/
theorem Inv.ways {ep : Int} {n : Nat} {p : Wy} (h : Inv ep n p) (l : List Pk) (hl : ∀ x ∈ l, x ∈ p.way) (hle : l.length ≤ p.way.length) : Inv ep n { p with way := l } :=
  ⟨h.e0, h.ok, h.right, h.se, h.re, h.bod, h.sum, h.bw, h.want, h.got, h.gl, h.few, h.small, fun x hx => h.way x (hl x hx), h.wants, Nat.le_trans hle h.wl, h.wn⟩
theorem push_inv {ep : Int} {n : Nat} {p : Wy} (h : Inv ep n p) (hn : n ≤ 1000) {b : ByteArray} (hb : b.size ≤ 100) : Inv ep (n + 1) (pushW p b) := by
  have hr := h.right
  have hs := h.sum; have hf := h.few; have hwl := h.wl; have hwn := h.wn; have hb0 := h.base0
  have hp : pushO p.s b = if p.s.bodies.length = 8 ∨ p.s.base + p.s.bodies.length = 1073741824 then (zS, zP, 3)
      else (⟨p.s.epoch, p.s.base, p.s.bodies ++ [b], if p.s.bodies.length = 0 then 4 else p.s.timer⟩, ⟨p.s.epoch, p.s.base + p.s.bodies.length, b⟩, 0) := by
    unfold pushO
    rw [if_neg (by rw [hr]; simp), if_neg (by omega)]
  unfold pushW
  rw [hp]
  by_cases h8 : p.s.bodies.length = 8 ∨ p.s.base + p.s.bodies.length = 1073741824
  · have h88 : p.s.bodies.length = 8 := by omega
    rw [if_pos h8, if_pos rfl]
    refine (Inv.up (p := p) h) |> fun g => ⟨g.e0, ?_, g.right, g.se, g.re, g.bod, g.sum, g.bw, g.want, g.got, g.gl, g.few, g.small, g.way, g.wants, g.wl, g.wn⟩
    show (p.ok && decide (p.s.bodies.length = 8)) = true
    rw [h.ok, h88]; rfl
  · rw [if_neg h8, if_neg (show ¬ ((0 : Int) = 3) by omega)]
    have hnr := push_right hr (b := b) (by omega) (fun e => h8 (.inl e)) (fun e => h8 (.inr e))
    have hput : ∀ (k : Nat) (c : ByteArray), p.put[k]? = some c → (p.put ++ [b])[k]? = some c := fun k c hc => by
      rw [List.getElem?_append_left (List.getElem?_eq_some_iff.1 hc).1]; exact hc
    refine ⟨h.e0, ?_, hnr, h.se, h.re, ?_, ?_, h.bw, h.want, ?_, ?_, ?_, ?_, ?_, h.wants, ?_, ?_⟩
    · show (p.ok && decide ((0 : Int) = 0)) = true
      rw [h.ok]; rfl
    · show p.s.bodies ++ [b] = (p.put ++ [b]).drop p.s.base.toNat
      rw [List.drop_append_of_le_length (by omega), ← h.bod]
    · show p.s.base + ((p.s.bodies ++ [b]).length : Int) = ((p.put ++ [b]).length : Int)
      simp only [List.length_append, List.length_cons, List.length_nil]
      omega
    · show p.got = (p.put ++ [b]).take p.got.length
      rw [List.take_append_of_le_length h.gl]; exact h.got
    · show p.got.length ≤ (p.put ++ [b]).length
      have := h.gl
      simp; omega
    · show (p.put ++ [b]).length ≤ n + 1
      simp; omega
    · intro c hc
      rcases List.mem_append.1 hc with hc | hc
      · exact h.small c hc
      · simp only [List.mem_singleton] at hc; rw [hc]; exact hb
    · intro x hx
      rcases List.mem_append.1 hx with hx | hx
      · obtain ⟨h1, k, h2, h3⟩ := h.way x hx
        exact ⟨h1, k, h2, hput k _ h3⟩
      · simp only [List.mem_singleton] at hx
        rw [hx]
        exact ⟨h.se, p.put.length, by show p.s.base + (p.s.bodies.length : Int) = _; omega, by show (p.put ++ [b])[p.put.length]? = some b; simp⟩
    · show (p.way ++ [_]).length ≤ 108 + (n + 1)
      simp; omega
    · show p.wants.length ≤ n + 1
      omega
theorem ack_inv {ep : Int} {n : Nat} {p : Wy} (h : Inv ep n p) {v : Int} (hv : 0 ≤ v ∧ v ≤ p.r.want) : Inv ep (n + 1) (ackW p v) := by
  have hr := h.right
  have hs := h.sum; have hg := h.gl; have hw := h.want; have hb0 := h.base0
  have hp : ackO p.s p.s.epoch v = if v ≤ p.s.base then (p.s, 0) else (⟨p.s.epoch, v, p.s.bodies.drop (v - p.s.base).toNat, if p.s.base + p.s.bodies.length = v then 0 else 4⟩, 0) := by
    unfold ackO
    rw [if_neg (by rw [hr]; simp), if_neg (by simp), if_neg (by omega)]
  unfold ackW
  rw [hp]
  have g := h.up
  by_cases e : v ≤ p.s.base
  · rw [if_pos e, if_pos rfl]; exact g
  · rw [if_neg e, if_pos rfl]
    have har := ack_right hr (by omega : p.s.base < v) (by omega)
    refine ⟨g.e0, g.ok, har, g.se, g.re, ?_, ?_, by show v ≤ p.r.want; omega, g.want, g.got, g.gl, g.few, g.small, g.way, g.wants, g.wl, g.wn⟩
    · show p.s.bodies.drop (v - p.s.base).toNat = p.put.drop v.toNat
      rw [h.bod, List.drop_drop]
      congr 1
      omega
    · show v + ((p.s.bodies.drop (v - p.s.base).toNat).length : Int) = p.put.length
      rw [List.length_drop]
      omega
theorem packs_way {ep : Int} {n : Nat} {p : Wy} (h : Inv ep n p) : ∀ x ∈ packs p.s.epoch p.s.base p.s.bodies, x.epoch = ep ∧ ∃ k : Nat, x.no = k ∧ p.put[k]? = some x.body := by
  intro x hx
  obtain ⟨k, b, h1, rfl⟩ := mem_packs _ _ _ _ hx
  have hb0 := h.base0
  refine ⟨h.se, p.s.base.toNat + k, by show p.s.base + (k : Int) = _; omega, ?_⟩
  show p.put[p.s.base.toNat + k]? = some b
  rw [h.bod, List.getElem?_drop] at h1
  exact h1
theorem tick_inv {ep : Int} {n : Nat} {p : Wy} (h : Inv ep n p) : Inv ep (n + 1) (tickW p) := by
  obtain ⟨t1, t2, t3⟩ := tick_same p.s
  have g := h.up
  have h8 : p.s.bodies.length ≤ 8 := ((right_iff _).1 h.right).2.1
  refine ⟨g.e0, g.ok, tick_right h.right, t1.trans g.se, g.re, ?_, ?_, ?_, g.want, g.got, g.gl, g.few, g.small, ?_, g.wants, ?_, g.wn⟩
  · show (tickO p.s).1.bodies = p.put.drop (tickO p.s).1.base.toNat
    rw [t3, t2]; exact h.bod
  · show (tickO p.s).1.base + ((tickO p.s).1.bodies.length : Int) = _
    rw [t3, t2]; exact h.sum
  · show (tickO p.s).1.base ≤ _
    rw [t2]; exact h.bw
  · intro x hx
    unfold tickW at hx
    simp only at hx
    split at hx
    · rcases List.mem_append.1 hx with hx | hx
      · exact h.way x hx
      · rcases tick_sent p.s with e | e
        · rw [e] at hx; simp at hx
        · rw [e] at hx; exact packs_way h x hx
    · exact h.way x hx
  · unfold tickW
    simp only
    have hwl := h.wl
    split
    · rw [List.length_append]
      rcases tick_sent p.s with e | e
      · rw [e]; simp; omega
      · rw [e, packs_len]; omega
    · omega
theorem far_inv {ep : Int} {n : Nat} {p : Wy} (h : Inv ep n p) (hn : n ≤ 1000) {k : Int} (hk : 0 ≤ k ∧ k ≤ 2) : Inv ep (n + 1) (farW p k) := by
  have g := h.up
  have hw := h.want; have hg := h.gl; have hf := h.few; have e0 := h.e0; have hre := h.re
  have ht : takeO p.r ⟨p.r.epoch + 1 + k, p.r.want, xB⟩ = (zR, false, 150) := by
    unfold takeO
    have hx : xB.size = 1 := rfl
    rw [if_neg (by simp only [Classical.not_not]; rw [hx, hre]; omega), if_pos (by simp only [ne_eq]; omega)]
  refine ⟨g.e0, ?_, g.right, g.se, g.re, g.bod, g.sum, g.bw, g.want, g.got, g.gl, g.few, g.small, g.way, g.wants, g.wl, g.wn⟩
  unfold farW
  simp only [ht, h.ok]
  rfl
/-- Whatever happens. -/
theorem do_inv {ep : Int} {n : Nat} {p : Wy} (h : Inv ep n p) (hn : n ≤ 1000) (a : Ac) : Inv ep (n + 1) (doO p a) := by
  unfold doO
  by_cases h0 : a.what = 0
  · rw [if_pos h0]; exact push_inv h hn (cut100_size _)
  rw [if_neg h0]
  by_cases h4 : a.what = 4
  · rw [if_pos h4]
    cases hv : p.wants[idx a.which p.wants.length]? with
    | none => exact h.up
    | some v => exact ack_inv h (h.wants v (List.mem_of_getElem? hv))
  rw [if_neg h4]
  by_cases h5 : a.what = 5
  · rw [if_pos h5]; exact tick_inv h
  rw [if_neg h5]
  by_cases h13 : 1 ≤ a.what ∧ a.what ≤ 3
  · rw [if_pos h13]
    cases hx : p.way[idx a.which p.way.length]? with
    | none => exact h.up
    | some x =>
      have hxo := h.way x (List.mem_of_getElem? hx)
      obtain ⟨t1, t2, _⟩ := tell_inv h hn hxo
      have hle : ∀ i, (p.way.eraseIdx i).length ≤ p.way.length := fun i => by rw [List.length_eraseIdx]; split <;> omega
      show Inv ep (n + 1) (if a.what = 1 then _ else _)
      by_cases e1 : a.what = 1
      · rw [if_pos e1]
        exact t1.ways _ (fun y hy => by rw [t2]; exact List.mem_of_mem_eraseIdx hy) (by rw [t2]; exact hle _)
      · rw [if_neg e1]
        by_cases e2 : a.what = 2
        · rw [if_pos e2]; exact t1
        · rw [if_neg e2]
          exact h.up.ways _ (fun y hy => List.mem_of_mem_eraseIdx hy) (hle _)
  · rw [if_neg h13]
    have := idx_lt a.which (show 0 < 3 by omega)
    exact far_inv h hn (by omega)
end Lk
end Go.Proofs.Ytbdlmokgmgpbfaa
