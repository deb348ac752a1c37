/- The plain mathematics of sums and frames: the register, its bits, and that it tells changes within 32 bits. -/
import Derived.Test.YtldaflofdbognaaRows
import Derived.Test.YtldaflofdbognaaVlqMath
namespace Go.Proofs.Ytldaflofdbognaa
open Vlq
set_option linter.unusedVariables false
set_option linter.unusedSimpArgs false
namespace Seal
/-- One bit into the register. -/
def bit1 (r b : Nat) : Nat := if r / 2147483648 = b then r * 2 % 4294967296 else (r * 2 % 4294967296) ^^^ 79764919
/-- The first k bits of a byte. -/
def bitsTo (r c : Nat) : Nat → Nat
  | 0 => r
  | k + 1 => bit1 (bitsTo r c k) (c / 2 ^ (7 - k) % 2)
def byte1 (r : Nat) (c : UInt8) : Nat := bitsTo r c.toNat 8
def crcFrom (r : Nat) (l : List UInt8) : Nat := l.foldl byte1 r
def crc (l : List UInt8) : Nat := crcFrom 4294967295 l
def be4 (n : Nat) : List UInt8 := [UInt8.ofNat (n / 16777216), UInt8.ofNat (n / 65536), UInt8.ofNat (n / 256), UInt8.ofNat n]
def head (b : List UInt8) : List UInt8 := 166 :: (enc b.length ++ b)
def frame (b : List UInt8) : List UInt8 := head b ++ be4 (crc (head b))

theorem bit1_lt {r b : Nat} (h : r < 4294967296) : bit1 r b < 4294967296 := by
  unfold bit1
  split
  · omega
  · exact Nat.xor_lt_two_pow (n := 32) (by omega) (by omega)
theorem bitsTo_lt {r c : Nat} (h : r < 4294967296) : ∀ k, bitsTo r c k < 4294967296
  | 0 => h
  | k + 1 => bit1_lt (bitsTo_lt h k)
theorem byte1_lt {r : Nat} {c : UInt8} (h : r < 4294967296) : byte1 r c < 4294967296 := bitsTo_lt h 8
theorem crcFrom_lt : ∀ (l : List UInt8) {r : Nat}, r < 4294967296 → crcFrom r l < 4294967296
  | [], _, h => h
  | c :: l, _, h => crcFrom_lt l (byte1_lt h)
theorem crc_lt (l : List UInt8) : crc l < 4294967296 := crcFrom_lt l (by omega)
theorem crcFrom_append (r : Nat) (a b : List UInt8) : crcFrom r (a ++ b) = crcFrom (crcFrom r a) b := by simp [crcFrom]
theorem crcFrom_snoc (r : Nat) (a : List UInt8) (c : UInt8) : crcFrom r (a ++ [c]) = byte1 (crcFrom r a) c := by simp [crcFrom]

/-- Bits, one by one. -/
def feed (r : Nat) (bs : List Nat) : Nat := bs.foldl bit1 r
def bits8 (c : Nat) : List Nat := [c / 128 % 2, c / 64 % 2, c / 32 % 2, c / 16 % 2, c / 8 % 2, c / 4 % 2, c / 2 % 2, c % 2]
def bitsL (l : List UInt8) : List Nat := l.flatMap fun c => bits8 c.toNat
theorem byte1_feed (r : Nat) (c : UInt8) : byte1 r c = feed r (bits8 c.toNat) := by
  simp [byte1, bitsTo, feed, bits8]
theorem crcFrom_feed : ∀ (l : List UInt8) (r : Nat), crcFrom r l = feed r (bitsL l)
  | [], _ => rfl
  | c :: l, r => by
    show crcFrom (byte1 r c) l = _
    rw [crcFrom_feed l, byte1_feed]
    simp [feed, bitsL]
theorem feed_append (r : Nat) (a b : List Nat) : feed r (a ++ b) = feed (feed r a) b := by simp [feed]
/-- The number that bits make. -/
def val : List Nat → Nat
  | [] => 0
  | b :: l => b * 2 ^ l.length + val l
theorem val_lt : ∀ (p : List Nat), (∀ b ∈ p, b < 2) → val p < 2 ^ p.length
  | [], _ => by simp [val]
  | b :: l, h => by
    have h1 := val_lt l (fun x hx => h x (by simp [hx]))
    have h2 : b < 2 := h b (by simp)
    simp only [val, List.length_cons, Nat.pow_succ]
    have : b = 0 ∨ b = 1 := by omega
    rcases this with rfl | rfl <;> omega
theorem xor_odd (x : Nat) (h : x % 2 = 0) : (x ^^^ 79764919) % 2 = 1 := by
  rw [Nat.xor_mod_two_eq_one]; omega
/-- At most 32 bits take the register to nought just from what they make. -/
theorem feed_zero : ∀ (p : List Nat) (r : Nat), p.length ≤ 32 → (∀ b ∈ p, b < 2) → r < 4294967296 → (feed r p = 0 ↔ r = val p * 2 ^ (32 - p.length))
  | [], r, _, _, _ => by simp [feed, val]
  | b :: p, r, hl, hb, hr => by
    have ih := feed_zero p (bit1 r b) (by simp at hl; omega) (fun x hx => hb x (by simp [hx])) (bit1_lt hr)
    have hbb : b < 2 := hb b (by simp)
    have hv := val_lt p (fun x hx => hb x (by simp [hx]))
    rw [show feed r (b :: p) = feed (bit1 r b) p from rfl, ih]
    simp only [List.length_cons] at hl ⊢
    obtain ⟨n, hn⟩ : ∃ n, 32 - p.length = n + 1 := ⟨31 - p.length, by omega⟩
    have hn2 : 32 - (p.length + 1) = n := by omega
    rw [hn, hn2]
    have hP : 2 ^ p.length * 2 ^ n = 2147483648 := by rw [← Nat.pow_add, show p.length + n = 31 by omega]
    have hV : val p * 2 ^ n < 2147483648 := by
      rw [← hP]; exact Nat.mul_lt_mul_of_pos_right hv (Nat.two_pow_pos n)
    have hE : val (b :: p) * 2 ^ n = b * 2147483648 + val p * 2 ^ n := by
      rw [val, Nat.add_mul, Nat.mul_assoc, hP]
    have hD : val p * 2 ^ (n + 1) = 2 * (val p * 2 ^ n) := by rw [Nat.pow_succ, ← Nat.mul_assoc]; omega
    rw [hE, hD]
    generalize val p * 2 ^ n = V at *
    unfold bit1
    split
    · rename_i h; omega
    · rename_i h
      have ho := xor_odd (r * 2 % 4294967296) (by omega)
      constructor
      · intro h2; omega
      · intro h2; omega
/-- Bits and errors. -/
theorem xor_shift (a b : Nat) : (a ^^^ b) * 2 % 4294967296 = (a * 2 % 4294967296) ^^^ (b * 2 % 4294967296) := by
  rw [show (4294967296 : Nat) = 2 ^ 32 by decide]
  apply Nat.eq_of_testBit_eq
  intro i
  have e : ∀ x : Nat, x * 2 = x <<< 1 := fun x => by simp [Nat.shiftLeft_eq]
  simp only [Nat.testBit_xor, Nat.testBit_mod_two_pow, e, Nat.testBit_shiftLeft]
  by_cases h : i < 32 <;> by_cases h1 : 1 ≤ i <;> simp [h, h1]
theorem xor_top {a b : Nat} : (a ^^^ b) / 2147483648 = (a / 2147483648) ^^^ (b / 2147483648) := by
  have := Nat.shiftRight_xor_distrib (a := a) (b := b) (i := 31)
  simpa [Nat.shiftRight_eq_div_pow] using this
theorem bit_two {x : Nat} (h : x < 2) : x = 0 ∨ x = 1 := by omega
theorem bit1_xor {r s a b : Nat} (hr : r < 4294967296) (hs : s < 4294967296) (ha : a < 2) (hb : b < 2) : bit1 (r ^^^ s) (a ^^^ b) = bit1 r a ^^^ bit1 s b := by
  have h1 : r / 2147483648 < 2 := by omega
  have h2 : s / 2147483648 < 2 := by omega
  unfold bit1
  rw [xor_shift, xor_top]
  generalize r * 2 % 4294967296 = R
  generalize s * 2 % 4294967296 = S
  have x0 : ∀ x y : Nat, x ^^^ y ^^^ 79764919 = x ^^^ 79764919 ^^^ y := fun x y => by rw [Nat.xor_assoc, Nat.xor_comm y, ← Nat.xor_assoc]
  have x1 : ∀ x y : Nat, x ^^^ y = (x ^^^ 79764919) ^^^ (y ^^^ 79764919) := fun x y => by
    rw [Nat.xor_assoc, ← Nat.xor_assoc 79764919, Nat.xor_comm 79764919 y, Nat.xor_assoc, Nat.xor_self, Nat.xor_zero]
  rcases bit_two h1 with e1 | e1 <;> rcases bit_two h2 with e2 | e2 <;> rcases bit_two ha with rfl | rfl <;> rcases bit_two hb with rfl | rfl <;>
    simp only [e1, e2, Nat.xor_self, Nat.xor_zero, Nat.zero_xor, if_true, if_false, Nat.zero_ne_one, Nat.one_ne_zero, reduceIte] <;>
    first
    | rfl
    | exact x0 R S
    | exact x1 R S
    | exact Nat.xor_assoc _ _ _
theorem feed_lt : ∀ (p : List Nat) {r : Nat}, r < 4294967296 → feed r p < 4294967296
  | [], _, h => h
  | b :: p, _, h => feed_lt p (bit1_lt h)
theorem feed_xor : ∀ (p q : List Nat) (r s : Nat), p.length = q.length → (∀ b ∈ p, b < 2) → (∀ b ∈ q, b < 2) → r < 4294967296 → s < 4294967296 →
    feed (r ^^^ s) (List.zipWith (· ^^^ ·) p q) = feed r p ^^^ feed s q
  | [], [], r, s, _, _, _, _, _ => rfl
  | a :: p, b :: q, r, s, hl, hp, hq, hr, hs => by
    show feed (bit1 (r ^^^ s) (a ^^^ b)) (List.zipWith (· ^^^ ·) p q) = _
    rw [bit1_xor hr hs (hp a (by simp)) (hq b (by simp))]
    exact feed_xor p q _ _ (by simpa using hl) (fun x hx => hp x (by simp [hx])) (fun x hx => hq x (by simp [hx])) (bit1_lt hr) (bit1_lt hs)
  | [], _ :: _, _, _, hl, _, _, _, _ => by simp at hl
  | _ :: _, [], _, _, hl, _, _, _, _ => by simp at hl
theorem feed_zeros (n : Nat) : feed 0 (List.replicate n 0) = 0 := by
  induction n with
  | zero => rfl
  | succ n ih => rw [List.replicate_succ]; exact ih
theorem feed_zeros_ne {r : Nat} (h : r ≠ 0) (hr : r < 4294967296) : ∀ n, feed r (List.replicate n 0) ≠ 0 := by
  intro n
  induction n generalizing r with
  | zero => exact h
  | succ n ih =>
    rw [List.replicate_succ]
    refine ih (r := bit1 r 0) ?_ (bit1_lt hr)
    intro h0
    have := (feed_zero [0] r (by simp) (by simp) hr).1 h0
    simp [val] at this
    exact h this
theorem val_zero : ∀ (p : List Nat), val p = 0 → ∀ b ∈ p, b = 0
  | [], _ => by simp
  | b :: p, h => by
    simp only [val] at h
    have h1 : b * 2 ^ p.length = 0 := by omega
    have h2 : val p = 0 := by omega
    intro x hx
    rcases List.mem_cons.1 hx with rfl | hx
    · rcases Nat.mul_eq_zero.1 h1 with h1 | h1
      · exact h1
      · exact absurd h1 (Nat.ne_of_gt (Nat.two_pow_pos _))
    · exact val_zero p h2 x hx
/-- An error within 32 bits takes an empty register to something. -/
theorem feed_error (a c : Nat) (p : List Nat) (hl : p.length ≤ 32) (hp : ∀ b ∈ p, b < 2) (hn : ∃ b ∈ p, b ≠ 0) : feed 0 (List.replicate a 0 ++ (p ++ List.replicate c 0)) ≠ 0 := by
  rw [feed_append, feed_zeros, feed_append]
  refine feed_zeros_ne ?_ (feed_lt p (by omega)) c
  intro h
  have h2 := (feed_zero p 0 hl hp (by omega)).1 h
  obtain ⟨b, hb, h0⟩ := hn
  have h3 : val p = 0 := by
    rcases Nat.mul_eq_zero.1 h2.symm with h3 | h3
    · exact h3
    · exact absurd h3 (Nat.ne_of_gt (Nat.two_pow_pos _))
  exact h0 (val_zero p h3 b hb)

/-- A number as four bytes. -/
theorem val_append : ∀ (p q : List Nat), val (p ++ q) = val p * 2 ^ q.length + val q
  | [], q => by simp [val]
  | b :: p, q => by
    rw [List.cons_append, val, val, val_append p q, List.length_append, Nat.pow_add, Nat.add_mul, Nat.mul_assoc]; omega
theorem bitsL_append (a b : List UInt8) : bitsL (a ++ b) = bitsL a ++ bitsL b := by simp [bitsL]
theorem bitsL_len : ∀ (l : List UInt8), (bitsL l).length = 8 * l.length
  | [] => rfl
  | c :: l => by
    show (bits8 c.toNat ++ bitsL l).length = _
    rw [List.length_append, bitsL_len l]; simp [bits8]; omega
theorem bitsL_two : ∀ (l : List UInt8), ∀ b ∈ bitsL l, b < 2
  | [], _, h => by simp [bitsL] at h
  | c :: l, b, h => by
    have h' : b ∈ bits8 c.toNat ++ bitsL l := h
    rcases List.mem_append.1 h' with h | h
    · simp only [bits8, List.mem_cons, List.not_mem_nil, or_false] at h; omega
    · exact bitsL_two l b h
theorem val_bits8 {c : Nat} (h : c < 256) : val (bits8 c) = c := by
  simp only [bits8, val, List.length_cons, List.length_nil]; omega
theorem be4_len (n : Nat) : (be4 n).length = 4 := rfl
theorem ofNat_u8 (n : Nat) : (UInt8.ofNat n).toNat = n % 256 := by rw [UInt8.toNat_ofNat']
theorem val_be4 {n : Nat} (h : n < 4294967296) : val (bitsL (be4 n)) = n := by
  have e : bitsL (be4 n) = bits8 (n / 16777216 % 256) ++ (bits8 (n / 65536 % 256) ++ (bits8 (n / 256 % 256) ++ bits8 (n % 256))) := by
    simp [bitsL, be4]
  rw [e, val_append, val_append, val_append, val_bits8 (by omega), val_bits8 (by omega), val_bits8 (by omega), val_bits8 (by omega)]
  simp [bits8]
  omega
/-- Behind its own sum a register is empty. -/
theorem feed_frame (m : List UInt8) : feed 4294967295 (bitsL (m ++ be4 (crc m))) = 0 := by
  rw [bitsL_append, feed_append, ← crcFrom_feed m]
  refine (feed_zero (bitsL (be4 (crc m))) (crc m) (by rw [bitsL_len, be4_len]; omega) (bitsL_two _) (crc_lt m)).2 ?_
  rw [val_be4 (crc_lt m), bitsL_len, be4_len]
  simp [crc]
/-- One bit turned. -/
def flip : List UInt8 → Nat → List UInt8
  | [], _ => []
  | c :: l, k => if k < 8 then (c ^^^ UInt8.ofNat (128 / 2 ^ k)) :: l else c :: flip l (k - 8)
def flipB : List Nat → Nat → List Nat
  | [], _ => []
  | b :: l, 0 => (b ^^^ 1) :: l
  | b :: l, k + 1 => b :: flipB l k
theorem flip_eq : ∀ (l : List UInt8) (k : Nat) (h : k / 8 < l.length), flip l k = l.set (k / 8) (l[k / 8] ^^^ UInt8.ofNat (128 / 2 ^ (k % 8)))
  | [], k, h => by simp at h
  | c :: l, k, h => by
    unfold flip
    by_cases h8 : k < 8
    · have e : k / 8 = 0 := by omega
      have e2 : k % 8 = k := by omega
      simp [h8, e, e2]
    · have ih := flip_eq l (k - 8) (by simp at h; omega)
      have e : k / 8 = (k - 8) / 8 + 1 := by omega
      have e2 : k % 8 = (k - 8) % 8 := by omega
      rw [if_neg h8, ih]
      simp [e, e2]
theorem flip_len : ∀ (l : List UInt8) (k : Nat), (flip l k).length = l.length
  | [], _ => rfl
  | c :: l, k => by
    unfold flip
    split
    · rfl
    · simp [flip_len l]
theorem flip_append : ∀ (h l : List UInt8) (k : Nat), flip (h ++ l) (8 * h.length + k) = h ++ flip l k
  | [], l, k => by simp
  | c :: h, l, k => by
    rw [List.cons_append, flip, if_neg (by simp; omega), show 8 * (c :: h).length + k - 8 = 8 * h.length + k by simp; omega, flip_append h l k]; rfl
theorem flip8 : ∀ c : Fin 256, ∀ k : Fin 8, bits8 (c.val ^^^ 128 / 2 ^ k.val) = flipB (bits8 c.val) k.val := by decide +kernel
theorem flipB_left : ∀ (p q : List Nat) (k : Nat), k < p.length → flipB (p ++ q) k = flipB p k ++ q
  | [], _, _, h => by simp at h
  | b :: p, q, 0, _ => rfl
  | b :: p, q, k + 1, h => by
    rw [List.cons_append, flipB, flipB, flipB_left p q k (by simpa using h)]; rfl
theorem flipB_right : ∀ (p q : List Nat) (k : Nat), flipB (p ++ q) (p.length + k) = p ++ flipB q k
  | [], q, k => by simp
  | b :: p, q, k => by
    rw [List.cons_append, show (b :: p).length + k = (p.length + k) + 1 by simp; omega, flipB, flipB_right p q k]; rfl
theorem bitsL_flip : ∀ (l : List UInt8) (k : Nat), bitsL (flip l k) = flipB (bitsL l) k
  | [], k => by cases k <;> rfl
  | c :: l, k => by
    unfold flip
    by_cases h8 : k < 8
    · have h := flip8 ⟨c.toNat, u8_lt c⟩ ⟨k, h8⟩
      have e : (c ^^^ UInt8.ofNat (128 / 2 ^ k)).toNat = c.toNat ^^^ 128 / 2 ^ k := by
        rw [UInt8.toNat_xor, ofNat_u8, Nat.mod_eq_of_lt]
        have : 128 / 2 ^ k ≤ 128 := Nat.div_le_self _ _
        omega
      rw [if_pos h8]
      show bits8 (c ^^^ UInt8.ofNat (128 / 2 ^ k)).toNat ++ bitsL l = flipB (bits8 c.toNat ++ bitsL l) k
      rw [flipB_left _ _ _ (by simp [bits8]; omega), e]
      exact congrArg (· ++ bitsL l) h
    · rw [if_neg h8]
      show bits8 c.toNat ++ bitsL (flip l (k - 8)) = flipB (bits8 c.toNat ++ bitsL l) k
      rw [bitsL_flip l, show k = (bits8 c.toNat).length + (k - 8) by simp [bits8]; omega, flipB_right]
      simp [bits8]
theorem flipB_zip : ∀ (p e : List Nat) (k : Nat), p.length = e.length → flipB (List.zipWith (· ^^^ ·) p e) k = List.zipWith (· ^^^ ·) p (flipB e k)
  | [], [], k, _ => by cases k <;> rfl
  | a :: p, b :: e, 0, _ => by simp [flipB, Nat.xor_assoc]
  | a :: p, b :: e, k + 1, h => by
    simp only [List.zipWith_cons_cons, flipB]
    rw [flipB_zip p e k (by simpa using h)]
  | [], _ :: _, _, h => by simp at h
  | _ :: _, [], _, h => by simp at h
/-- What j bits of a pattern turn, from bit a on. -/
def torn (l : List UInt8) (a pt : Nat) : Nat → List UInt8
  | 0 => l
  | j + 1 => if pt / 2 ^ j % 2 = 1 then flip (torn l a pt j) (a + j) else torn l a pt j
theorem torn_len (l : List UInt8) (a pt : Nat) : ∀ j, (torn l a pt j).length = l.length
  | 0 => rfl
  | j + 1 => by
    unfold torn
    split
    · rw [flip_len, torn_len l a pt j]
    · exact torn_len l a pt j
def pbits (pt : Nat) : Nat → List Nat
  | 0 => []
  | j + 1 => pbits pt j ++ [pt / 2 ^ j % 2]
theorem pbits_len (pt : Nat) : ∀ j, (pbits pt j).length = j
  | 0 => rfl
  | j + 1 => by simp [pbits, pbits_len pt j]
theorem pbits_two (pt : Nat) : ∀ j, ∀ b ∈ pbits pt j, b < 2
  | 0, _, h => by simp [pbits] at h
  | j + 1, b, h => by
    rcases List.mem_append.1 h with h | h
    · exact pbits_two pt j b h
    · simp only [List.mem_cons, List.not_mem_nil, or_false] at h; omega
theorem pbits_mem (pt : Nat) : ∀ j i, i < j → pt / 2 ^ i % 2 ∈ pbits pt j
  | 0, _, h => by omega
  | j + 1, i, h => by
    by_cases hi : i < j
    · exact List.mem_append_left _ (pbits_mem pt j i hi)
    · obtain rfl : i = j := by omega
      exact List.mem_append_right _ (by simp)
theorem zip_zeros : ∀ (p : List Nat), List.zipWith (· ^^^ ·) p (List.replicate p.length 0) = p
  | [] => rfl
  | a :: p => by simp [List.replicate_succ, zip_zeros p]
theorem bitsL_torn (l : List UInt8) (a pt : Nat) : ∀ j, a + j ≤ 8 * l.length →
    bitsL (torn l a pt j) = List.zipWith (· ^^^ ·) (bitsL l) (List.replicate a 0 ++ (pbits pt j ++ List.replicate (8 * l.length - a - j) 0))
  | 0, h => by
    have e : List.replicate a 0 ++ (pbits pt 0 ++ List.replicate (8 * l.length - a - 0) 0) = List.replicate (bitsL l).length 0 := by
      rw [bitsL_len, pbits, List.nil_append, List.replicate_append_replicate]; congr 1; omega
    rw [e, zip_zeros]; rfl
  | j + 1, h => by
    have ih := bitsL_torn l a pt j (by omega)
    obtain ⟨c, hc⟩ : ∃ c, 8 * l.length - a - j = c + 1 := ⟨8 * l.length - a - j - 1, by omega⟩
    have hc' : 8 * l.length - a - (j + 1) = c := by omega
    rw [hc] at ih
    rw [hc', pbits]
    unfold torn
    split
    · rename_i hb
      rw [bitsL_flip, ih, flipB_zip _ _ _ (by simp [bitsL_len, pbits_len]; omega), hb]
      congr 1
      rw [show a + j = (List.replicate a 0 : List Nat).length + ((pbits pt j).length + 0) by simp [pbits_len], flipB_right, flipB_right, List.replicate_succ]
      simp [flipB]
    · rename_i hb
      rw [ih, show pt / 2 ^ j % 2 = 0 by omega, List.replicate_succ]
      simp
/-- A change within 32 bits is told by the sum. -/
theorem torn_ne (h b : List UInt8) (a pt j : Nat) (hj : j ≤ 32) (ha : a + j ≤ 8 * (b.length + 4)) (hx : ∃ i, i < j ∧ pt / 2 ^ i % 2 = 1) (b' q : List UInt8)
    (hs : torn (b ++ be4 (crc (h ++ b))) a pt j = b' ++ q) : be4 (crc (h ++ b')) ≠ q := by
  intro he
  have hl : (b ++ be4 (crc (h ++ b))).length = b.length + 4 := by rw [List.length_append, be4_len]
  have h1 : feed 4294967295 (bitsL (h ++ (b ++ be4 (crc (h ++ b))))) = 0 := by rw [← List.append_assoc]; exact feed_frame _
  have h2 : feed 4294967295 (bitsL (h ++ (b' ++ q))) = 0 := by rw [← he, ← List.append_assoc]; exact feed_frame _
  rw [bitsL_append, feed_append] at h1 h2
  have hr : feed 4294967295 (bitsL h) < 4294967296 := feed_lt _ (by omega)
  generalize feed 4294967295 (bitsL h) = r at *
  rw [← hs, bitsL_torn _ _ _ _ (by rw [hl]; exact ha)] at h2
  have h3 := feed_xor (bitsL (b ++ be4 (crc (h ++ b)))) (List.replicate a 0 ++ (pbits pt j ++ List.replicate (8 * (b ++ be4 (crc (h ++ b))).length - a - j) 0)) r 0
    (by rw [bitsL_len, hl]; simp [pbits_len]; omega) (bitsL_two _) (by
      intro x hx
      rcases List.mem_append.1 hx with hx | hx
      · have := List.eq_of_mem_replicate hx; omega
      · rcases List.mem_append.1 hx with hx | hx
        · exact pbits_two pt j x hx
        · have := List.eq_of_mem_replicate hx; omega) hr (by omega)
  rw [Nat.xor_zero, h2, h1, Nat.zero_xor] at h3
  obtain ⟨i, hi, hp⟩ := hx
  exact feed_error a _ (pbits pt j) (by rw [pbits_len]; exact hj) (pbits_two pt j) ⟨_, pbits_mem pt j i hi, by omega⟩ h3.symm
end Seal
end Go.Proofs.Ytldaflofdbognaa
