/- The plain mathematics of numbers as bytes, most significant digits first: what is written, what is read. -/
import Derived.Test.YtmkbdlailffjeaaRows
namespace Go.Proofs.Ytmkbdlailffjeaa
namespace Vlq
/-- The digits that are not the last one. -/
def hi (n : Nat) : List UInt8 := if n = 0 then [] else hi (n / 128) ++ [UInt8.ofNat (n % 128 + 128)]
termination_by n
decreasing_by omega
def enc (n : Nat) : List UInt8 := hi (n / 128) ++ [UInt8.ofNat (n % 128)]
theorem hi_zero : hi 0 = [] := by rw [hi]; simp
theorem hi_pos {n : Nat} (h : n ≠ 0) : hi n = hi (n / 128) ++ [UInt8.ofNat (n % 128 + 128)] := by rw [hi]; simp [h]
theorem hi_step {n c : Nat} (h : n ≠ 0 ∨ c ≠ 0) (hc : c < 128) : hi (n * 128 + c) = hi n ++ [UInt8.ofNat (c + 128)] := by
  rw [hi_pos (by omega), show (n * 128 + c) / 128 = n by omega, show (n * 128 + c) % 128 = c by omega]
theorem enc_step {n c : Nat} (hc : c < 128) : enc (n * 128 + c) = hi n ++ [UInt8.ofNat c] := by
  rw [enc, show (n * 128 + c) / 128 = n by omega, show (n * 128 + c) % 128 = c by omega]
theorem hi_len : ∀ (k n : Nat), n < 128 ^ k → (hi n).length ≤ k := by
  intro k
  induction k with
  | zero => intro n h; have : n = 0 := by simpa using h
            subst this; simp [hi_zero]
  | succ k ih =>
    intro n h
    by_cases h0 : n = 0
    · subst h0; simp [hi_zero]
    · rw [hi_pos h0, List.length_append]
      have := ih (n / 128) (by rw [Nat.pow_succ] at h; omega)
      simp; omega
theorem enc_len (n : Nat) (h : n < 18446744073709551616) : (enc n).length ≤ 10 := by
  rw [enc, List.length_append]
  have := hi_len 9 (n / 128) (by have : (128 : Nat) ^ 9 = 9223372036854775808 := by decide
                                 omega)
  simp; omega
theorem enc_pos (n : Nat) : 1 ≤ (enc n).length := by rw [enc, List.length_append]; simp
theorem enc_ne (n : Nat) : enc n ≠ [] := by intro h; have := enc_pos n; rw [h] at this; simp at this

def rdGo (most : Nat) : List UInt8 → Nat → Nat → Nat × Nat × Nat
  | [], _, _ => (0, 0, 20)
  | c :: r, n, i => if most / 128 < n then (0, 0, 21) else if c.toNat < 128 then (n * 128 + c.toNat % 128, i + 1, 0) else rdGo most r (n * 128 + c.toNat % 128) (i + 1)
def rd (most : Nat) (l : List UInt8) (i : Nat) : Nat × Nat × Nat :=
  if (l.drop i).head? = some 128 then (0, 0, 21) else rdGo most (l.drop i) 0 i

theorem rdGo_bad {most : Nat} : ∀ (l : List UInt8) (n i : Nat), (rdGo most l n i).2.2 ≠ 0 → (rdGo most l n i).1 = 0 ∧ (rdGo most l n i).2.1 = 0 := by
  intro l
  induction l with
  | nil => intro n i _; exact ⟨rfl, rfl⟩
  | cons c r ih =>
    intro n i h
    unfold rdGo at h ⊢
    split
    · exact ⟨rfl, rfl⟩
    · split
      · simp_all
      · rw [if_neg (by assumption), if_neg (by assumption)] at h; exact ih _ _ h
theorem rd_bad {most : Nat} {l : List UInt8} {i : Nat} (h : (rd most l i).2.2 ≠ 0) : (rd most l i).1 = 0 ∧ (rd most l i).2.1 = 0 := by
  unfold rd at h ⊢
  split
  · exact ⟨rfl, rfl⟩
  · rw [if_neg (by assumption)] at h; exact rdGo_bad _ _ _ h
theorem rdGo_err {most : Nat} : ∀ (l : List UInt8) (n i : Nat), (rdGo most l n i).2.2 = 0 ∨ (rdGo most l n i).2.2 = 20 ∨ (rdGo most l n i).2.2 = 21 := by
  intro l
  induction l with
  | nil => intro n i; right; left; rfl
  | cons c r ih =>
    intro n i
    unfold rdGo
    split
    · right; right; rfl
    · split
      · left; rfl
      · exact ih _ _
theorem rd_err (most : Nat) (l : List UInt8) (i : Nat) : (rd most l i).2.2 = 0 ∨ (rd most l i).2.2 = 20 ∨ (rd most l i).2.2 = 21 := by
  unfold rd
  split
  · right; right; rfl
  · exact rdGo_err _ _ _
theorem u8_lt (c : UInt8) : c.toNat < 256 := c.toNat_lt
theorem u8_128 {c : UInt8} : c = 128 ↔ c.toNat = 128 := by
  constructor
  · rintro rfl; rfl
  · intro h; exact UInt8.toNat_inj.1 (by simpa using h)
theorem ofNat_hi {c : UInt8} (h : ¬ c.toNat < 128) : UInt8.ofNat (c.toNat % 128 + 128) = c := by
  have := u8_lt c
  rw [show c.toNat % 128 + 128 = c.toNat by omega]
  simp
theorem ofNat_lo {c : UInt8} (h : c.toNat < 128) : UInt8.ofNat (c.toNat % 128) = c := by
  rw [show c.toNat % 128 = c.toNat by omega]
  simp
/-- What is read, written again, is what was read. -/
theorem rdGo_once {most : Nat} (hm : most % 128 = 127) : ∀ (l : List UInt8) (n i m to : Nat), (n ≠ 0 ∨ l.head? ≠ some 128) → rdGo most l n i = (m, to, 0) →
    i < to ∧ to - i ≤ l.length ∧ m ≤ most ∧ hi n ++ l.take (to - i) = enc m := by
  intro l
  induction l with
  | nil => intro n i m to _ h; simp [rdGo] at h
  | cons c r ih =>
    intro n i m to h0 h
    unfold rdGo at h
    split at h
    · simp at h
    · split at h
      · rename_i h1 h2
        simp only [Prod.mk.injEq, and_true] at h
        obtain ⟨rfl, rfl⟩ := h
        refine ⟨by omega, by simp, by omega, ?_⟩
        rw [enc_step (by omega), ofNat_lo h2, show i + 1 - i = 1 by omega]
        simp
      · rename_i h1 h2
        have hz : n ≠ 0 ∨ c.toNat % 128 ≠ 0 := by
          rcases h0 with h0 | h0
          · exact .inl h0
          · right
            intro hc
            apply h0
            have := u8_lt c
            simp only [List.head?_cons, Option.some.injEq]
            exact u8_128.2 (by omega)
        have hn : n * 128 + c.toNat % 128 ≠ 0 := by omega
        obtain ⟨a1, a2, a3, a4⟩ := ih _ _ _ _ (.inl hn) h
        refine ⟨by omega, by simp; omega, a3, ?_⟩
        rw [hi_step hz (by omega), ofNat_hi h2] at a4
        rw [← a4, show to - i = (to - (i + 1)) + 1 by omega, List.take_succ_cons]
        simp
theorem rd_once {most : Nat} (hm : most % 128 = 127) {l : List UInt8} {i m to : Nat} (h : rd most l i = (m, to, 0)) :
    i < to ∧ to ≤ l.length ∧ m ≤ most ∧ (l.drop i).take (to - i) = enc m := by
  unfold rd at h
  split at h
  · simp at h
  · rename_i h0
    obtain ⟨a1, a2, a3, a4⟩ := rdGo_once hm _ _ _ _ _ (.inr h0) h
    rw [hi_zero, List.nil_append] at a4
    rw [List.length_drop] at a2
    exact ⟨a1, by omega, a3, a4⟩
theorem rdGo_hi {most : Nat} : ∀ (m : Nat) (rest : List UInt8) (i : Nat), m ≤ most → m / 128 ≤ most / 128 → rdGo most (hi m ++ rest) 0 i = rdGo most rest m (i + (hi m).length) := by
  intro m
  induction m using Nat.strongRecOn with
  | _ m ih =>
    intro rest i h1 h2
    by_cases h0 : m = 0
    · subst h0; simp [hi_zero]
    · rw [hi_pos h0, List.append_assoc, ih (m / 128) (by omega) _ _ (by omega) (by omega), List.singleton_append, rdGo, if_neg (by omega)]
      have e : (UInt8.ofNat (m % 128 + 128)).toNat = m % 128 + 128 := by
        rw [UInt8.toNat_ofNat']; omega
      rw [e, if_neg (by omega), show m / 128 * 128 + (m % 128 + 128) % 128 = m by omega, List.length_append]
      simp [Nat.add_assoc]
theorem hi_head : ∀ (m : Nat) (rest : List UInt8), m ≠ 0 → (hi m ++ rest).head? ≠ some 128 := by
  intro m
  induction m using Nat.strongRecOn with
  | _ m ih =>
    intro rest h0
    rw [hi_pos h0, List.append_assoc]
    by_cases h1 : m / 128 = 0
    · rw [h1, hi_zero]
      simp only [List.nil_append, List.singleton_append, List.head?_cons, ne_eq, Option.some.injEq]
      rw [u8_128, UInt8.toNat_ofNat']
      omega
    · exact ih (m / 128) (by omega) _ h1
theorem enc_head (n : Nat) (rest : List UInt8) : (enc n ++ rest).head? ≠ some 128 := by
  rw [enc, List.append_assoc]
  by_cases h1 : n / 128 = 0
  · rw [h1, hi_zero]
    simp only [List.nil_append, List.singleton_append, List.head?_cons, ne_eq, Option.some.injEq]
    rw [u8_128, UInt8.toNat_ofNat']
    omega
  · exact hi_head _ _ h1
/-- What is written is read again. -/
theorem rd_enc {most n : Nat} (h : n ≤ most) (a b : List UInt8) : rd most (a ++ (enc n ++ b)) a.length = (n, a.length + (enc n).length, 0) := by
  unfold rd
  rw [List.drop_left, if_neg (enc_head n b), enc, List.append_assoc, rdGo_hi _ _ _ (by omega) (by omega), List.singleton_append, rdGo, if_neg (by omega)]
  have e : (UInt8.ofNat (n % 128)).toNat = n % 128 := by
    rw [UInt8.toNat_ofNat']; omega
  rw [e, if_pos (by omega), List.length_append]
  simp
  omega
/-- What is cut off ends too early. -/
theorem rdGo_cut {most : Nat} : ∀ (m k i : Nat), m ≤ most / 128 → rdGo most ((hi m).take k) 0 i = (0, 0, 20) := by
  intro m
  induction m using Nat.strongRecOn with
  | _ m ih =>
    intro k i h
    by_cases h0 : m = 0
    · subst h0; simp [hi_zero, rdGo]
    · by_cases hk : k ≤ (hi (m / 128)).length
      · rw [hi_pos h0, List.take_append_of_le_length hk]
        exact ih _ (by omega) _ _ (by omega)
      · have hl : (hi m).length ≤ k := by rw [hi_pos h0, List.length_append]; simp; omega
        rw [List.take_of_length_le hl]
        have := rdGo_hi (most := most) m [] i (by omega) (by omega)
        rw [List.append_nil] at this
        rw [this]; rfl
theorem rd_cut {most n k : Nat} (h : n ≤ most) (hk : k < (enc n).length) : rd most ((enc n).take k) 0 = (0, 0, 20) := by
  have hl : (enc n).take k = (hi (n / 128)).take k := by
    rw [enc, List.length_append] at hk
    rw [enc, List.take_append_of_le_length (by simp at hk; omega)]
  unfold rd
  rw [List.drop_zero]
  have hh : ((enc n).take k).head? ≠ some 128 := by
    intro hc
    have := enc_head n []
    rw [List.append_nil] at this
    apply this
    rw [List.head?_take] at hc
    split at hc
    · cases hc
    · exact hc
  rw [if_neg hh, hl]
  exact rdGo_cut _ _ _ (by omega)
/-- In order. -/
theorem hi_mono : ∀ (b a : Nat), a ≤ b → (hi a).length ≤ (hi b).length := by
  intro b
  induction b using Nat.strongRecOn with
  | _ b ih =>
    intro a h
    by_cases h0 : a = 0
    · subst h0; simp [hi_zero]
    · rw [hi_pos h0, hi_pos (by omega : b ≠ 0), List.length_append, List.length_append]
      have := ih (b / 128) (by omega) (a / 128) (by omega)
      simp; omega
theorem lex_app {a b : List UInt8} (h : a < b) (hl : a.length = b.length) (c d : List UInt8) : a ++ c < b ++ d := by
  induction a generalizing b with
  | nil => cases b with
    | nil => exact absurd h (List.lt_irrefl _)
    | cons _ _ => simp at hl
  | cons x a ih =>
    cases b with
    | nil => simp at hl
    | cons y b =>
      rw [List.cons_lt_cons_iff] at h
      rw [List.cons_append, List.cons_append, List.cons_lt_cons_iff]
      rcases h with h | ⟨h1, h2⟩
      · exact .inl h
      · exact .inr ⟨h1, ih h2 (by simpa using hl)⟩
theorem lex_last {a : List UInt8} {c d : UInt8} (h : c < d) : a ++ [c] < a ++ [d] := by
  induction a with
  | nil => simpa [List.cons_lt_cons_iff] using h
  | cons x a ih => rw [List.cons_append, List.cons_append, List.cons_lt_cons_iff]; exact .inr ⟨rfl, ih⟩
theorem ofNat_lt {c d : Nat} (h : c < d) (hd : d < 256) : UInt8.ofNat c < UInt8.ofNat d := by
  rw [UInt8.lt_iff_toNat_lt, UInt8.toNat_ofNat', UInt8.toNat_ofNat']; omega
theorem hi_lex : ∀ (b a : Nat), a < b → (hi a).length < (hi b).length ∨ (hi a).length = (hi b).length ∧ hi a < hi b := by
  intro b
  induction b using Nat.strongRecOn with
  | _ b ih =>
    intro a h
    have hb := hi_pos (by omega : b ≠ 0)
    by_cases h0 : a = 0
    · subst h0; left; rw [hi_zero, hb, List.length_append]; simp
    · rw [hi_pos h0, hb, List.length_append, List.length_append]
      by_cases hq : a / 128 = b / 128
      · right
        refine ⟨by rw [hq]; simp, ?_⟩
        rw [hq]
        exact lex_last (ofNat_lt (by omega) (by omega))
      · rcases ih (b / 128) (by omega) (a / 128) (by omega) with h1 | ⟨h1, h2⟩
        · left; simp; omega
        · right; exact ⟨by simp; omega, lex_app h2 h1 _ _⟩
theorem enc_lex {a b : Nat} (h : a < b) : (enc a).length < (enc b).length ∨ (enc a).length = (enc b).length ∧ enc a < enc b := by
  rw [enc, enc, List.length_append, List.length_append]
  by_cases hq : a / 128 = b / 128
  · right
    refine ⟨by rw [hq]; simp, ?_⟩
    rw [hq]
    exact lex_last (ofNat_lt (by omega) (by omega))
  · rcases hi_lex (b / 128) (a / 128) (by omega) with h1 | ⟨h1, h2⟩
    · left; simp; omega
    · right; exact ⟨by simp; omega, lex_app h2 h1 _ _⟩
/-- A signed number, folded. -/
def zz (n : Int) : Nat := if n < 0 then (-2 * n - 1).toNat else (2 * n).toNat
def un (n : Nat) : Int := if n % 2 = 0 then (n / 2 : Nat) else -((n / 2 : Nat) : Int) - 1
theorem un_zz (n : Int) : un (zz n) = n := by
  unfold un zz
  split <;> split <;> omega
theorem zz_un (n : Nat) : zz (un n) = n := by
  unfold un zz
  split <;> split <;> omega
theorem zz_lt {n : Int} (h1 : -9223372036854775808 ≤ n) (h2 : n ≤ 9223372036854775807) : zz n < 18446744073709551616 := by
  unfold zz
  split <;> omega
end Vlq
end Go.Proofs.Ytmkbdlailffjeaa
