/- Number of the reference. -/
import Derived.Test.YtileonenphmkkaaDoorJobRefA
import Derived.Test.YtileonenphmkkaaDoorJobDig
namespace Go.Proofs.YtileonenphmkkaaDoor
open Go.RowKit
set_option linter.unusedVariables false
set_option maxRecDepth 8000
namespace Jo
open Gen
abbrev bl (S : ByteArray) : List UInt8 := S.data.toList
/-- A number handed back, or none. -/
def NumR (s : List UInt8) (w : World) (e : Ending) (w' : World) : Prop :=
  Below w.heap.size w w' ∧ ((∃ n r, rd s = some (n, r) ∧ e = .returned (.tuple #[.int .i64 (n : Int), strv r, .bool true])) ∨ (rd s = none ∧ e = .returned (.tuple #[.int .i64 0, strv s, .bool false])))
theorem bl_get (S : ByteArray) (k : Nat) (h : k < S.size) : (bl S)[k]? = some S[k] := by
  have hz : (bl S).length = S.size := (Lib.size_eq S).symm
  rw [List.getElem?_eq_getElem (by omega)]
  rfl
theorem tw_get {s : List UInt8} {k : Nat} {b : UInt8} (hk : k < (s.takeWhile isD).length) (h : s[k]? = some b) : isD b = true := by
  have h2 : (s.takeWhile isD)[k]? = some b := by
    have e : s = s.takeWhile isD ++ s.dropWhile isD := (List.takeWhile_append_dropWhile).symm
    rw [e, List.getElem?_append_left hk] at h
    exact h
  exact mem_tw (List.mem_of_getElem? h2)
theorem tw_stop {s : List UInt8} {b : UInt8} (h : s[(s.takeWhile isD).length]? = some b) : isD b = false := by
  have e : s = s.takeWhile isD ++ s.dropWhile isD := (List.takeWhile_append_dropWhile).symm
  rw [e, List.getElem?_append_right (by rw [List.takeWhile_append_dropWhile]; exact Nat.le_refl _)] at h
  rw [List.takeWhile_append_dropWhile, Nat.sub_self] at h
  exact dw_stops s b (by rw [List.head?_eq_getElem?]; exact h)
/-- The bytes of a text up to where its digits end. -/
structure Bys (S : ByteArray) (n : Nat) : Prop where
  le : n ≤ S.size
  dig : ∀ k (h : k < S.size), k < n → 48 ≤ S[k].toNat ∧ S[k].toNat ≤ 57
  end_ : ∀ (h : n < S.size), S[n].toNat < 48 ∨ 57 < S[n].toNat
theorem bys (S : ByteArray) : Bys S ((bl S).takeWhile isD).length := by
  have hz : (bl S).length = S.size := (Lib.size_eq S).symm
  have e : (bl S).takeWhile isD ++ (bl S).dropWhile isD = bl S := List.takeWhile_append_dropWhile
  refine ⟨?_, fun k h hk => isD_iff.1 (tw_get hk (bl_get S k h)), fun h => ?_⟩
  · have := congrArg List.length e
    rw [List.length_append] at this
    omega
  · have h2 := tw_stop (bl_get S _ h)
    have h3 : ¬ (48 ≤ S[((bl S).takeWhile isD).length].toNat ∧ S[((bl S).takeWhile isD).length].toNat ≤ 57) := fun h4 => by rw [isD_iff.2 h4] at h2; cases h2
    omega
theorem u8_bd (c : UInt8) : 0 ≤ (c.toNat : Int) ∧ (c.toNat : Int) ≤ 255 := by have := c.toNat_lt; omega
theorem cutTo (S D : ByteArray) (n : Nat) (hn : n ≤ S.size) (hD : D = S.extract 0 n) (w : World) : (Instr.slice 9 (.string S) none (some (.int .i64 (n : Int))) none).run Tryd.prog w = .ok (.string D) w := by
  have h := Tryd.underlying9
  rw [hD]
  simp [go_sem, h, hn]
theorem val_app (a b : List UInt8) : val (a ++ b) = val a * 10 ^ b.length + val b := by
  have : val (a ++ b) = b.foldl (fun a b => 10 * a + (b.toNat - 48)) (val a) := by unfold val; rw [List.foldl_append]
  rw [this, val_from]
theorem val_take_le (l : List UInt8) (m : Nat) : val (l.take m) ≤ val l := by
  have e : l.take m ++ l.drop m = l := List.take_append_drop m l
  have := val_app (l.take m) (l.drop m)
  rw [e] at this
  have h : val (l.take m) * 1 ≤ val (l.take m) * 10 ^ (l.drop m).length := Nat.mul_le_mul_left _ (Nat.pos_of_ne_zero (by simp))
  omega
theorem val_next {l : List UInt8} {m : Nat} {x : UInt8} (h : l[m]? = some x) : val (l.take (m + 1)) = 10 * val (l.take m) + (x.toNat - 48) := by
  rw [List.take_add_one, h, Option.toList_some, val_push]
theorem wrap_in {n : Int} (h1 : -9223372036854775808 ≤ n) (h2 : n ≤ 9223372036854775807) : IntKind.i64.wrap n = n := by
  simp [IntKind.wrap, IntKind.bits, IntKind.signed]; omega
theorem wrap_u8 {n : Int} (h1 : 0 ≤ n) (h2 : n ≤ 255) : IntKind.u8.wrap n = n := by
  simp [IntKind.wrap, IntKind.bits, IntKind.signed]; omega
theorem gtr_run (D : ByteArray) (q r : Bool) (hr : (!q) = r) (h : (Op.bytesLess D.toList topD || D.toList == topD) = q) (w : World) : (binOp .gtr 9 (.string D) (.string ⟨#[57, 50, 50, 51, 51, 55, 50, 48, 51, 54, 56, 53, 52, 55, 55, 53, 56, 48, 55]⟩)).run Tryd.prog w = .ok (.bool r) w := by
  subst hr
  have e : ∀ (a b : ByteArray), binOp .gtr 9 (.string a) (.string b) = pure (.bool !(Op.bytesLess a.toList b.toList || a.toList == b.toList)) := fun a b => by simp [binOp, Op.stringOp]
  rw [e, Lib.toList_data (⟨#[57, 50, 50, 51, 51, 55, 50, 48, 51, 54, 56, 53, 52, 55, 55, 53, 56, 48, 55]⟩ : ByteArray)]
  show (pure (.bool !(Op.bytesLess D.toList topD || D.toList == topD)) : Sem Value).run Tryd.prog w = _
  rw [h]
  rfl
set_option maxHeartbeats 16000000 in
theorem rNumberS (S : ByteArray) (hs : S.size ≤ 140737488355328) (w : World) :
    Calls Tryd.prog 45 #[.string S] w (NumR (bl S) w) := by
  have hB := bys S
  have hW := num_ways _ (tw_digits (bl S)) (bl S) rfl
  obtain ⟨l, hl⟩ : ∃ l, l = (bl S).takeWhile isD := ⟨_, rfl⟩
  obtain ⟨n, hn⟩ : ∃ n, n = l.length := ⟨_, rfl⟩
  have hdig : ∀ b ∈ l, isD b = true := hl ▸ tw_digits (bl S)
  have hrd : rd (bl S) = if numOk (bl S) then some (val l, (bl S).dropWhile isD) else none := by rw [hl]; rfl
  rw [← hl] at hB hW
  rw [← hn] at hB hW
  obtain ⟨D, hD⟩ : ∃ D, D = S.extract 0 n := ⟨_, rfl⟩
  have hDl : bl D = l := by
    rw [hD]
    show (S.extract 0 n).data.toList = l
    rw [Lib.extract_data, hn, hl]
    simp only [List.drop_zero, Nat.sub_zero]
    exact (List.prefix_iff_eq_take.1 (List.takeWhile_prefix _)).symm
  have hdw : strv ((bl S).dropWhile isD) = .string (S.extract n S.size) := by
    have e : (bl S).takeWhile isD ++ (bl S).dropWhile isD = bl S := List.takeWhile_append_dropWhile
    have e2 : (bl S).dropWhile isD = (bl S).drop n := by
      rw [hn, hl]
      conv => rhs; arg 2; rw [← e]
      rw [List.drop_left]
    rw [e2]
    have h3 := ext_drop (bl S) n
    rw [show (bl S).length = S.size from (Lib.size_eq S).symm] at h3
    exact congrArg Value.string h3.symm
  have hDz : D.size = n := by rw [hn, ← hDl]; exact Lib.size_eq D
  have hcut := fun w => cutTo S D n hB.le hD w
  have BY := Lib.hid hB
  have l0 : (0 : Int) ≤ n := by omega
  have l1 : (n : Int) ≤ S.size := by have := hB.le; omega
  have HDl := Lib.hid hDl
  have HDz := Lib.hid hDz
  have HL := Lib.hid hn
  have hhead : ∀ h : 0 < S.size, 0 < n → l.head? = some S[0] := fun h h0 => by
    have h1 := bl_get S 0 h
    rw [List.head?_eq_getElem?]
    have e : (bl S).takeWhile isD ++ (bl S).dropWhile isD = bl S := List.takeWhile_append_dropWhile
    rw [← e, ← hl, List.getElem?_append_left (by omega)] at h1
    exact h1
  have HH := Lib.hid hhead
  have bad : numOk (bl S) = false → Calls Tryd.prog 45 #[.string S] w (fun e w' => Below w.heap.size w w' ∧ e = .returned (.tuple #[.int .i64 0, .string S, .bool false])) → Calls Tryd.prog 45 #[.string S] w (NumR (bl S) w) := fun h c =>
    c.mono fun e w' ⟨h1, h2⟩ => ⟨h1, .inr ⟨by rw [hrd, h]; rfl, h2⟩⟩
  have good : numOk (bl S) = true → Calls Tryd.prog 45 #[.string S] w (fun e w' => Below w.heap.size w w' ∧ e = .returned (.tuple #[.int .i64 (val l : Int), .string (S.extract n S.size), .bool true])) → Calls Tryd.prog 45 #[.string S] w (NumR (bl S) w) := fun h c =>
    c.mono fun e w' ⟨h1, h2⟩ => ⟨h1, .inl ⟨val l, (bl S).dropWhile isD, by rw [hrd, h]; rfl, by rw [h2, hdw]⟩⟩
  have HDig := Lib.hid hdig
  have HS := Lib.hid hs
  clear hB hl hrd hD hDl hDz hdw hn hhead hdig hs
  rcases hW with ⟨h0, hno⟩ | ⟨h1, h48, hno⟩ | ⟨h1, h19, hno⟩ | ⟨h19, h48, hc, hno⟩ | ⟨h19, h48, hc, hv, hno⟩ | ⟨h1, h19, h48, hv, hno⟩
  · refine bad hno ?_
    have HN := Lib.hid h0
    have g0 : ((n : Int) == 0) = true := eq_b (by omega)
    clear hno bad good h0
    go_enter Tryd.func45, Tryd.ntmps45
    go_wp2_with fail
    go_loopw [5] (fun i wr => wr = w ∧ ∃ k : Nat, i = .int .i64 (k : Int) ∧ k ≤ n) (fun i _ => n - (intOf i).toNat)
    case atStart => exact ⟨rfl, 0, rfl, by omega⟩
    case round =>
      obtain ⟨rfl, k, rfl, hk⟩ := hrel
      by_cases hkn : k < n
      · have hks : k < S.size := by have := BY.out.le; omega
        obtain ⟨d1, d2⟩ := BY.out.dig k hks hkn
        have e0 : (k : Int) < S.size := by omega
        have e1 : (48 : Int) ≤ (S[k].toNat : Int) := by omega
        have e2 : (S[k].toNat : Int) ≤ 57 := by omega
        have ew : IntKind.i64.wrap ((k : Int) + 1) = ((k + 1 : Nat) : Int) := wrap_in (by omega) (by have := HS.out; omega)
        clear d1 d2
        go_wp2_with fail
        go_roundw
        case rel => exact ⟨trivial, k + 1, rfl, by omega⟩
        case measure => simp [intOf]; omega
      · have hkn : n = k := by omega
        subst hkn
        by_cases he : n < S.size
        · rcases BY.out.end_ he with h | h
          · have e0 : (n : Int) < S.size := by omega
            have e1 : (S[n].toNat : Int) < 48 := by omega
            clear h
            go_wp2_with fail
            go_ret3
            exact ⟨Below.refl _ _, rfl⟩
          · have e0 : (n : Int) < S.size := by omega
            have e1 : (48 : Int) ≤ (S[n].toNat : Int) := by omega
            have e2 : (57 : Int) < (S[n].toNat : Int) := by omega
            clear h
            go_wp2_with fail
            go_ret3
            exact ⟨Below.refl _ _, rfl⟩
        · have e0 : (S.size : Int) ≤ n := by omega
          go_wp2_with fail
          go_ret3
          exact ⟨Below.refl _ _, rfl⟩
  · refine bad hno ?_
    have z0 : 0 < S.size := by have := BY.out.le; omega
    have hx : S[0].toNat = 48 := by
      have h2 := HH.out z0 (by omega)
      rw [h48] at h2
      rw [← Option.some.inj h2]; rfl
    have g0 : ((n : Int) == 0) = false := ne_b (by omega)
    have g1 : (1 : Int) < n := by omega
    have g2 : ((S[0].toNat : Int) == 48) = true := eq_b (by omega)
    have g3 : (0 : Int) < S.size := by omega
    clear hno bad good h1 h48 hx
    go_enter Tryd.func45, Tryd.ntmps45
    go_wp2_with fail
    go_loopw [5] (fun i wr => wr = w ∧ ∃ k : Nat, i = .int .i64 (k : Int) ∧ k ≤ n) (fun i _ => n - (intOf i).toNat)
    case atStart => exact ⟨rfl, 0, rfl, by omega⟩
    case round =>
      obtain ⟨rfl, k, rfl, hk⟩ := hrel
      by_cases hkn : k < n
      · have hks : k < S.size := by have := BY.out.le; omega
        obtain ⟨d1, d2⟩ := BY.out.dig k hks hkn
        have e0 : (k : Int) < S.size := by omega
        have e1 : (48 : Int) ≤ (S[k].toNat : Int) := by omega
        have e2 : (S[k].toNat : Int) ≤ 57 := by omega
        have ew : IntKind.i64.wrap ((k : Int) + 1) = ((k + 1 : Nat) : Int) := wrap_in (by omega) (by have := HS.out; omega)
        clear d1 d2
        go_wp2_with fail
        go_roundw
        case rel => exact ⟨trivial, k + 1, rfl, by omega⟩
        case measure => simp [intOf]; omega
      · have hkn : n = k := by omega
        subst hkn
        by_cases he : n < S.size
        · rcases BY.out.end_ he with h | h
          · have e0 : (n : Int) < S.size := by omega
            have e1 : (S[n].toNat : Int) < 48 := by omega
            clear h
            go_wp2_with fail
            go_ret3
            exact ⟨Below.refl _ _, rfl⟩
          · have e0 : (n : Int) < S.size := by omega
            have e1 : (48 : Int) ≤ (S[n].toNat : Int) := by omega
            have e2 : (57 : Int) < (S[n].toNat : Int) := by omega
            clear h
            go_wp2_with fail
            go_ret3
            exact ⟨Below.refl _ _, rfl⟩
        · have e0 : (S.size : Int) ≤ n := by omega
          go_wp2_with fail
          go_ret3
          exact ⟨Below.refl _ _, rfl⟩
  · refine bad hno ?_
    have z0 : 0 < S.size := by have := BY.out.le; omega
    have h48 : l.head? ≠ some 48 := h1.resolve_left (by omega)
    have hx : S[0].toNat ≠ 48 := fun e => h48 (by rw [HH.out z0 (by omega)]; exact congrArg some (UInt8.toNat_inj.1 e))
    have g0 : ((n : Int) == 0) = false := ne_b (by omega)
    have g1 : (1 : Int) < n := by omega
    have g2 : ((S[0].toNat : Int) == 48) = false := ne_b (by omega)
    have g3 : (0 : Int) < S.size := by omega
    have g4 : (19 : Int) < n := by omega
    clear hno bad good h1 h48 hx
    go_enter Tryd.func45, Tryd.ntmps45
    go_wp2_with fail
    go_loopw [5] (fun i wr => wr = w ∧ ∃ k : Nat, i = .int .i64 (k : Int) ∧ k ≤ n) (fun i _ => n - (intOf i).toNat)
    case atStart => exact ⟨rfl, 0, rfl, by omega⟩
    case round =>
      obtain ⟨rfl, k, rfl, hk⟩ := hrel
      by_cases hkn : k < n
      · have hks : k < S.size := by have := BY.out.le; omega
        obtain ⟨d1, d2⟩ := BY.out.dig k hks hkn
        have e0 : (k : Int) < S.size := by omega
        have e1 : (48 : Int) ≤ (S[k].toNat : Int) := by omega
        have e2 : (S[k].toNat : Int) ≤ 57 := by omega
        have ew : IntKind.i64.wrap ((k : Int) + 1) = ((k + 1 : Nat) : Int) := wrap_in (by omega) (by have := HS.out; omega)
        clear d1 d2
        go_wp2_with fail
        go_roundw
        case rel => exact ⟨trivial, k + 1, rfl, by omega⟩
        case measure => simp [intOf]; omega
      · have hkn : n = k := by omega
        subst hkn
        by_cases he : n < S.size
        · rcases BY.out.end_ he with h | h
          · have e0 : (n : Int) < S.size := by omega
            have e1 : (S[n].toNat : Int) < 48 := by omega
            clear h
            go_wp2_with fail
            go_ret3
            exact ⟨Below.refl _ _, rfl⟩
          · have e0 : (n : Int) < S.size := by omega
            have e1 : (48 : Int) ≤ (S[n].toNat : Int) := by omega
            have e2 : (57 : Int) < (S[n].toNat : Int) := by omega
            clear h
            go_wp2_with fail
            go_ret3
            exact ⟨Below.refl _ _, rfl⟩
        · have e0 : (S.size : Int) ≤ n := by omega
          go_wp2_with fail
          go_ret3
          exact ⟨Below.refl _ _, rfl⟩
  · refine bad hno ?_
    have z0 : 0 < S.size := by have := BY.out.le; omega
    have hx : S[0].toNat ≠ 48 := fun e => h48 (by rw [HH.out z0 (by omega)]; exact congrArg some (UInt8.toNat_inj.1 e))
    have g0 : ((n : Int) == 0) = false := ne_b (by omega)
    have g1 : (1 : Int) < n := by omega
    have g2 : ((S[0].toNat : Int) == 48) = false := ne_b (by omega)
    have g3 : (0 : Int) < S.size := by omega
    have g4 : decide ((19 : Int) < n) = false := decide_eq_false (by omega)
    have g5 : ((n : Int) == 19) = true := eq_b (by omega)
    have hcc := fun w => gtr_run D false true rfl (by rw [Lib.toList_data, show D.data.toList = l from HDl.out]; exact hc) w
    have HN := Lib.hid h19
    clear hno bad good h19 h48 hx hc
    go_enter Tryd.func45, Tryd.ntmps45
    go_wp2_with fail
    go_loopw [5] (fun i wr => wr = w ∧ ∃ k : Nat, i = .int .i64 (k : Int) ∧ k ≤ n) (fun i _ => n - (intOf i).toNat)
    case atStart => exact ⟨rfl, 0, rfl, by omega⟩
    case round =>
      obtain ⟨rfl, k, rfl, hk⟩ := hrel
      by_cases hkn : k < n
      · have hks : k < S.size := by have := BY.out.le; omega
        obtain ⟨d1, d2⟩ := BY.out.dig k hks hkn
        have e0 : (k : Int) < S.size := by omega
        have e1 : (48 : Int) ≤ (S[k].toNat : Int) := by omega
        have e2 : (S[k].toNat : Int) ≤ 57 := by omega
        have ew : IntKind.i64.wrap ((k : Int) + 1) = ((k + 1 : Nat) : Int) := wrap_in (by omega) (by have := HS.out; omega)
        clear d1 d2
        go_wp2_with fail
        go_roundw
        case rel => exact ⟨trivial, k + 1, rfl, by omega⟩
        case measure => simp [intOf]; omega
      · have hkn : n = k := by omega
        subst hkn
        by_cases he : n < S.size
        · rcases BY.out.end_ he with h | h
          · have e0 : (n : Int) < S.size := by omega
            have e1 : (S[n].toNat : Int) < 48 := by omega
            clear h
            go_wp2_with fail
            go_ret3
            exact ⟨Below.refl _ _, rfl⟩
          · have e0 : (n : Int) < S.size := by omega
            have e1 : (48 : Int) ≤ (S[n].toNat : Int) := by omega
            have e2 : (57 : Int) < (S[n].toNat : Int) := by omega
            clear h
            go_wp2_with fail
            go_ret3
            exact ⟨Below.refl _ _, rfl⟩
        · have e0 : (S.size : Int) ≤ n := by omega
          go_wp2_with fail
          go_ret3
          exact ⟨Below.refl _ _, rfl⟩
  · refine good hno ?_
    have z0 : 0 < S.size := by have := BY.out.le; omega
    have hx : S[0].toNat ≠ 48 := fun e => h48 (by rw [HH.out z0 (by omega)]; exact congrArg some (UInt8.toNat_inj.1 e))
    have g0 : ((n : Int) == 0) = false := ne_b (by omega)
    have g1 : (1 : Int) < n := by omega
    have g2 : ((S[0].toNat : Int) == 48) = false := ne_b (by omega)
    have g3 : (0 : Int) < S.size := by omega
    have g4 : decide ((19 : Int) < n) = false := decide_eq_false (by omega)
    have g5 : ((n : Int) == 19) = true := eq_b (by omega)
    have hcc := fun w => gtr_run D true false rfl (by rw [Lib.toList_data, show D.data.toList = l from HDl.out]; exact hc) w
    have HN := Lib.hid h19
    have HV := Lib.hid hv
    clear hno bad good h19 h48 hx hc hv
    go_enter Tryd.func45, Tryd.ntmps45
    go_wp2_with fail
    go_loopw [5] (fun i wr => wr = w ∧ ∃ k : Nat, i = .int .i64 (k : Int) ∧ k ≤ n) (fun i _ => n - (intOf i).toNat)
    case atStart => exact ⟨rfl, 0, rfl, by omega⟩
    case round =>
      obtain ⟨rfl, k, rfl, hk⟩ := hrel
      by_cases hkn : k < n
      · have hks : k < S.size := by have := BY.out.le; omega
        obtain ⟨d1, d2⟩ := BY.out.dig k hks hkn
        have e0 : (k : Int) < S.size := by omega
        have e1 : (48 : Int) ≤ (S[k].toNat : Int) := by omega
        have e2 : (S[k].toNat : Int) ≤ 57 := by omega
        have ew : IntKind.i64.wrap ((k : Int) + 1) = ((k + 1 : Nat) : Int) := wrap_in (by omega) (by have := HS.out; omega)
        clear d1 d2
        go_wp2_with fail
        go_roundw
        case rel => exact ⟨trivial, k + 1, rfl, by omega⟩
        case measure => simp [intOf]; omega
      · have hkn : n = k := by omega
        subst hkn
        by_cases he : n < S.size
        · rcases BY.out.end_ he with h | h
          · have e0 : (n : Int) < S.size := by omega
            have e1 : (S[n].toNat : Int) < 48 := by omega
            clear h
            go_wp2_with fail
            go_loopw [7, 8] (fun a i wq => wq = wr ∧ ∃ m : Nat, i = .int .i64 (m : Int) ∧ a = .int .i64 (val (l.take m) : Int) ∧ m ≤ n) (fun _ i _ => n - (intOf i).toNat)
            case atStart => exact ⟨rfl, 0, rfl, rfl, by omega⟩
            case round =>
              obtain ⟨rfl, m, rfl, rfl, hm⟩ := hrel
              have hle := val_take_le l m
              by_cases hmn : m < n
              · have hmz : m < D.size := by have := HDz.out; omega
                have hx : l[m]? = some D[m] := HDl.out ▸ bl_get D m hmz
                have hd : 48 ≤ D[m].toNat ∧ D[m].toNat ≤ 57 := isD_iff.1 (HDig.out _ (List.mem_of_getElem? hx))
                have hnx := val_next hx
                have hle2 := val_take_le l (m + 1)
                have hV := HV.out
                obtain ⟨c, hc⟩ : ∃ c : Nat, c = D[m].toNat - 48 := ⟨_, rfl⟩
                obtain ⟨y, hy⟩ : ∃ y : Nat, y = val (l.take m) := ⟨_, rfl⟩
                obtain ⟨z, hz⟩ : ∃ z : Nat, z = val (l.take (m + 1)) := ⟨_, rfl⟩
                rw [← hz, ← hy, ← hc] at hnx
                rw [← hz] at hle2
                rw [← hy]
                have HZ := Lib.hid hz
                have i0 : (m : Int) < D.size := by omega
                have q1 : IntKind.u8.wrap ((D[m].toNat : Int) - 48) = (c : Int) := by rw [wrap_u8 (by omega) (by omega)]; omega
                have q2 : IntKind.i64.wrap (c : Int) = (c : Int) := wrap_in (by omega) (by omega)
                have q3 : IntKind.i64.wrap (10 * (y : Int)) = 10 * (y : Int) := wrap_in (by omega) (by omega)
                have q4 : IntKind.i64.wrap (10 * (y : Int) + (c : Int)) = (z : Int) := by rw [wrap_in (by omega) (by omega)]; omega
                have q5 : IntKind.i64.wrap ((m : Int) + 1) = ((m + 1 : Nat) : Int) := wrap_in (by omega) (by have := HS.out; omega)
                have q6 : (m : Int) < (n : Int) := by omega
                clear hx hd hnx hle2 hV hc hy hz hle
                go_wp2_with fail
                go_roundw
                case rel => exact ⟨trivial, m + 1, rfl, by rw [← HZ.out], by omega⟩
                case measure => simp [intOf]; omega
              · have hmn : n = m := by omega
                have hfull : val (l.take m) = val l := by rw [← hmn, HL.out, List.take_length]
                rw [hfull]
                have q6 : (n : Int) ≤ (m : Int) := by omega
                have q7 : decide (m < n) = false := decide_eq_false (by omega)
                clear hmn hfull hle
                go_wp2_with fail
                go_quiet (fail)
                go_wp2_with fail
                go_ret3
                exact ⟨below_drewN (Below.refl _ _), rfl⟩
          · have e0 : (n : Int) < S.size := by omega
            have e1 : (48 : Int) ≤ (S[n].toNat : Int) := by omega
            have e2 : (57 : Int) < (S[n].toNat : Int) := by omega
            clear h
            go_wp2_with fail
            go_loopw [7, 8] (fun a i wq => wq = wr ∧ ∃ m : Nat, i = .int .i64 (m : Int) ∧ a = .int .i64 (val (l.take m) : Int) ∧ m ≤ n) (fun _ i _ => n - (intOf i).toNat)
            case atStart => exact ⟨rfl, 0, rfl, rfl, by omega⟩
            case round =>
              obtain ⟨rfl, m, rfl, rfl, hm⟩ := hrel
              have hle := val_take_le l m
              by_cases hmn : m < n
              · have hmz : m < D.size := by have := HDz.out; omega
                have hx : l[m]? = some D[m] := HDl.out ▸ bl_get D m hmz
                have hd : 48 ≤ D[m].toNat ∧ D[m].toNat ≤ 57 := isD_iff.1 (HDig.out _ (List.mem_of_getElem? hx))
                have hnx := val_next hx
                have hle2 := val_take_le l (m + 1)
                have hV := HV.out
                obtain ⟨c, hc⟩ : ∃ c : Nat, c = D[m].toNat - 48 := ⟨_, rfl⟩
                obtain ⟨y, hy⟩ : ∃ y : Nat, y = val (l.take m) := ⟨_, rfl⟩
                obtain ⟨z, hz⟩ : ∃ z : Nat, z = val (l.take (m + 1)) := ⟨_, rfl⟩
                rw [← hz, ← hy, ← hc] at hnx
                rw [← hz] at hle2
                rw [← hy]
                have HZ := Lib.hid hz
                have i0 : (m : Int) < D.size := by omega
                have q1 : IntKind.u8.wrap ((D[m].toNat : Int) - 48) = (c : Int) := by rw [wrap_u8 (by omega) (by omega)]; omega
                have q2 : IntKind.i64.wrap (c : Int) = (c : Int) := wrap_in (by omega) (by omega)
                have q3 : IntKind.i64.wrap (10 * (y : Int)) = 10 * (y : Int) := wrap_in (by omega) (by omega)
                have q4 : IntKind.i64.wrap (10 * (y : Int) + (c : Int)) = (z : Int) := by rw [wrap_in (by omega) (by omega)]; omega
                have q5 : IntKind.i64.wrap ((m : Int) + 1) = ((m + 1 : Nat) : Int) := wrap_in (by omega) (by have := HS.out; omega)
                have q6 : (m : Int) < (n : Int) := by omega
                clear hx hd hnx hle2 hV hc hy hz hle
                go_wp2_with fail
                go_roundw
                case rel => exact ⟨trivial, m + 1, rfl, by rw [← HZ.out], by omega⟩
                case measure => simp [intOf]; omega
              · have hmn : n = m := by omega
                have hfull : val (l.take m) = val l := by rw [← hmn, HL.out, List.take_length]
                rw [hfull]
                have q6 : (n : Int) ≤ (m : Int) := by omega
                have q7 : decide (m < n) = false := decide_eq_false (by omega)
                clear hmn hfull hle
                go_wp2_with fail
                go_quiet (fail)
                go_wp2_with fail
                go_ret3
                exact ⟨below_drewN (Below.refl _ _), rfl⟩
        · have e0 : (S.size : Int) ≤ n := by omega
          go_wp2_with fail
          go_loopw [7, 8] (fun a i wq => wq = wr ∧ ∃ m : Nat, i = .int .i64 (m : Int) ∧ a = .int .i64 (val (l.take m) : Int) ∧ m ≤ n) (fun _ i _ => n - (intOf i).toNat)
          case atStart => exact ⟨rfl, 0, rfl, rfl, by omega⟩
          case round =>
            obtain ⟨rfl, m, rfl, rfl, hm⟩ := hrel
            have hle := val_take_le l m
            by_cases hmn : m < n
            · have hmz : m < D.size := by have := HDz.out; omega
              have hx : l[m]? = some D[m] := HDl.out ▸ bl_get D m hmz
              have hd : 48 ≤ D[m].toNat ∧ D[m].toNat ≤ 57 := isD_iff.1 (HDig.out _ (List.mem_of_getElem? hx))
              have hnx := val_next hx
              have hle2 := val_take_le l (m + 1)
              have hV := HV.out
              obtain ⟨c, hc⟩ : ∃ c : Nat, c = D[m].toNat - 48 := ⟨_, rfl⟩
              obtain ⟨y, hy⟩ : ∃ y : Nat, y = val (l.take m) := ⟨_, rfl⟩
              obtain ⟨z, hz⟩ : ∃ z : Nat, z = val (l.take (m + 1)) := ⟨_, rfl⟩
              rw [← hz, ← hy, ← hc] at hnx
              rw [← hz] at hle2
              rw [← hy]
              have HZ := Lib.hid hz
              have i0 : (m : Int) < D.size := by omega
              have q1 : IntKind.u8.wrap ((D[m].toNat : Int) - 48) = (c : Int) := by rw [wrap_u8 (by omega) (by omega)]; omega
              have q2 : IntKind.i64.wrap (c : Int) = (c : Int) := wrap_in (by omega) (by omega)
              have q3 : IntKind.i64.wrap (10 * (y : Int)) = 10 * (y : Int) := wrap_in (by omega) (by omega)
              have q4 : IntKind.i64.wrap (10 * (y : Int) + (c : Int)) = (z : Int) := by rw [wrap_in (by omega) (by omega)]; omega
              have q5 : IntKind.i64.wrap ((m : Int) + 1) = ((m + 1 : Nat) : Int) := wrap_in (by omega) (by have := HS.out; omega)
              have q6 : (m : Int) < (n : Int) := by omega
              clear hx hd hnx hle2 hV hc hy hz hle
              go_wp2_with fail
              go_roundw
              case rel => exact ⟨trivial, m + 1, rfl, by rw [← HZ.out], by omega⟩
              case measure => simp [intOf]; omega
            · have hmn : n = m := by omega
              have hfull : val (l.take m) = val l := by rw [← hmn, HL.out, List.take_length]
              rw [hfull]
              have q6 : (n : Int) ≤ (m : Int) := by omega
              have q7 : decide (m < n) = false := decide_eq_false (by omega)
              clear hmn hfull hle
              go_wp2_with fail
              go_quiet (fail)
              go_wp2_with fail
              go_ret3
              exact ⟨below_drewN (Below.refl _ _), rfl⟩
  · refine good hno ?_
    have HV := Lib.hid hv
    have g0 : ((n : Int) == 0) = false := ne_b (by omega)
    have g4 : decide ((19 : Int) < n) = false := decide_eq_false (by omega)
    have g5 : ((n : Int) == 19) = false := ne_b (by omega)
    have z0 : 0 < S.size := by have := BY.out.le; omega
    have H1 := Lib.hid (And.intro h1 h19)
    clear hno bad good hv
    by_cases hone : n = 1
    · have g1 : decide ((1 : Int) < n) = false := decide_eq_false (by omega)
      clear h1 h19 h48 hone
      go_enter Tryd.func45, Tryd.ntmps45
      go_wp2_with fail
      go_loopw [5] (fun i wr => wr = w ∧ ∃ k : Nat, i = .int .i64 (k : Int) ∧ k ≤ n) (fun i _ => n - (intOf i).toNat)
      case atStart => exact ⟨rfl, 0, rfl, by omega⟩
      case round =>
        obtain ⟨rfl, k, rfl, hk⟩ := hrel
        by_cases hkn : k < n
        · have hks : k < S.size := by have := BY.out.le; omega
          obtain ⟨d1, d2⟩ := BY.out.dig k hks hkn
          have e0 : (k : Int) < S.size := by omega
          have e1 : (48 : Int) ≤ (S[k].toNat : Int) := by omega
          have e2 : (S[k].toNat : Int) ≤ 57 := by omega
          have ew : IntKind.i64.wrap ((k : Int) + 1) = ((k + 1 : Nat) : Int) := wrap_in (by omega) (by have := HS.out; omega)
          clear d1 d2
          go_wp2_with fail
          go_roundw
          case rel => exact ⟨trivial, k + 1, rfl, by omega⟩
          case measure => simp [intOf]; omega
        · have hkn : n = k := by omega
          subst hkn
          by_cases he : n < S.size
          · rcases BY.out.end_ he with h | h
            · have e0 : (n : Int) < S.size := by omega
              have e1 : (S[n].toNat : Int) < 48 := by omega
              clear h
              go_wp2_with fail
              go_loopw [7, 8] (fun a i wq => wq = wr ∧ ∃ m : Nat, i = .int .i64 (m : Int) ∧ a = .int .i64 (val (l.take m) : Int) ∧ m ≤ n) (fun _ i _ => n - (intOf i).toNat)
              case atStart => exact ⟨rfl, 0, rfl, rfl, by omega⟩
              case round =>
                obtain ⟨rfl, m, rfl, rfl, hm⟩ := hrel
                have hle := val_take_le l m
                by_cases hmn : m < n
                · have hmz : m < D.size := by have := HDz.out; omega
                  have hx : l[m]? = some D[m] := HDl.out ▸ bl_get D m hmz
                  have hd : 48 ≤ D[m].toNat ∧ D[m].toNat ≤ 57 := isD_iff.1 (HDig.out _ (List.mem_of_getElem? hx))
                  have hnx := val_next hx
                  have hle2 := val_take_le l (m + 1)
                  have hV := HV.out
                  obtain ⟨c, hc⟩ : ∃ c : Nat, c = D[m].toNat - 48 := ⟨_, rfl⟩
                  obtain ⟨y, hy⟩ : ∃ y : Nat, y = val (l.take m) := ⟨_, rfl⟩
                  obtain ⟨z, hz⟩ : ∃ z : Nat, z = val (l.take (m + 1)) := ⟨_, rfl⟩
                  rw [← hz, ← hy, ← hc] at hnx
                  rw [← hz] at hle2
                  rw [← hy]
                  have HZ := Lib.hid hz
                  have i0 : (m : Int) < D.size := by omega
                  have q1 : IntKind.u8.wrap ((D[m].toNat : Int) - 48) = (c : Int) := by rw [wrap_u8 (by omega) (by omega)]; omega
                  have q2 : IntKind.i64.wrap (c : Int) = (c : Int) := wrap_in (by omega) (by omega)
                  have q3 : IntKind.i64.wrap (10 * (y : Int)) = 10 * (y : Int) := wrap_in (by omega) (by omega)
                  have q4 : IntKind.i64.wrap (10 * (y : Int) + (c : Int)) = (z : Int) := by rw [wrap_in (by omega) (by omega)]; omega
                  have q5 : IntKind.i64.wrap ((m : Int) + 1) = ((m + 1 : Nat) : Int) := wrap_in (by omega) (by have := HS.out; omega)
                  have q6 : (m : Int) < (n : Int) := by omega
                  clear hx hd hnx hle2 hV hc hy hz hle
                  go_wp2_with fail
                  go_roundw
                  case rel => exact ⟨trivial, m + 1, rfl, by rw [← HZ.out], by omega⟩
                  case measure => simp [intOf]; omega
                · have hmn : n = m := by omega
                  have hfull : val (l.take m) = val l := by rw [← hmn, HL.out, List.take_length]
                  rw [hfull]
                  have q6 : (n : Int) ≤ (m : Int) := by omega
                  have q7 : decide (m < n) = false := decide_eq_false (by omega)
                  clear hmn hfull hle
                  go_wp2_with fail
                  go_quiet (fail)
                  go_wp2_with fail
                  go_ret3
                  exact ⟨below_drewN (Below.refl _ _), rfl⟩
            · have e0 : (n : Int) < S.size := by omega
              have e1 : (48 : Int) ≤ (S[n].toNat : Int) := by omega
              have e2 : (57 : Int) < (S[n].toNat : Int) := by omega
              clear h
              go_wp2_with fail
              go_loopw [7, 8] (fun a i wq => wq = wr ∧ ∃ m : Nat, i = .int .i64 (m : Int) ∧ a = .int .i64 (val (l.take m) : Int) ∧ m ≤ n) (fun _ i _ => n - (intOf i).toNat)
              case atStart => exact ⟨rfl, 0, rfl, rfl, by omega⟩
              case round =>
                obtain ⟨rfl, m, rfl, rfl, hm⟩ := hrel
                have hle := val_take_le l m
                by_cases hmn : m < n
                · have hmz : m < D.size := by have := HDz.out; omega
                  have hx : l[m]? = some D[m] := HDl.out ▸ bl_get D m hmz
                  have hd : 48 ≤ D[m].toNat ∧ D[m].toNat ≤ 57 := isD_iff.1 (HDig.out _ (List.mem_of_getElem? hx))
                  have hnx := val_next hx
                  have hle2 := val_take_le l (m + 1)
                  have hV := HV.out
                  obtain ⟨c, hc⟩ : ∃ c : Nat, c = D[m].toNat - 48 := ⟨_, rfl⟩
                  obtain ⟨y, hy⟩ : ∃ y : Nat, y = val (l.take m) := ⟨_, rfl⟩
                  obtain ⟨z, hz⟩ : ∃ z : Nat, z = val (l.take (m + 1)) := ⟨_, rfl⟩
                  rw [← hz, ← hy, ← hc] at hnx
                  rw [← hz] at hle2
                  rw [← hy]
                  have HZ := Lib.hid hz
                  have i0 : (m : Int) < D.size := by omega
                  have q1 : IntKind.u8.wrap ((D[m].toNat : Int) - 48) = (c : Int) := by rw [wrap_u8 (by omega) (by omega)]; omega
                  have q2 : IntKind.i64.wrap (c : Int) = (c : Int) := wrap_in (by omega) (by omega)
                  have q3 : IntKind.i64.wrap (10 * (y : Int)) = 10 * (y : Int) := wrap_in (by omega) (by omega)
                  have q4 : IntKind.i64.wrap (10 * (y : Int) + (c : Int)) = (z : Int) := by rw [wrap_in (by omega) (by omega)]; omega
                  have q5 : IntKind.i64.wrap ((m : Int) + 1) = ((m + 1 : Nat) : Int) := wrap_in (by omega) (by have := HS.out; omega)
                  have q6 : (m : Int) < (n : Int) := by omega
                  clear hx hd hnx hle2 hV hc hy hz hle
                  go_wp2_with fail
                  go_roundw
                  case rel => exact ⟨trivial, m + 1, rfl, by rw [← HZ.out], by omega⟩
                  case measure => simp [intOf]; omega
                · have hmn : n = m := by omega
                  have hfull : val (l.take m) = val l := by rw [← hmn, HL.out, List.take_length]
                  rw [hfull]
                  have q6 : (n : Int) ≤ (m : Int) := by omega
                  have q7 : decide (m < n) = false := decide_eq_false (by omega)
                  clear hmn hfull hle
                  go_wp2_with fail
                  go_quiet (fail)
                  go_wp2_with fail
                  go_ret3
                  exact ⟨below_drewN (Below.refl _ _), rfl⟩
          · have e0 : (S.size : Int) ≤ n := by omega
            go_wp2_with fail
            go_loopw [7, 8] (fun a i wq => wq = wr ∧ ∃ m : Nat, i = .int .i64 (m : Int) ∧ a = .int .i64 (val (l.take m) : Int) ∧ m ≤ n) (fun _ i _ => n - (intOf i).toNat)
            case atStart => exact ⟨rfl, 0, rfl, rfl, by omega⟩
            case round =>
              obtain ⟨rfl, m, rfl, rfl, hm⟩ := hrel
              have hle := val_take_le l m
              by_cases hmn : m < n
              · have hmz : m < D.size := by have := HDz.out; omega
                have hx : l[m]? = some D[m] := HDl.out ▸ bl_get D m hmz
                have hd : 48 ≤ D[m].toNat ∧ D[m].toNat ≤ 57 := isD_iff.1 (HDig.out _ (List.mem_of_getElem? hx))
                have hnx := val_next hx
                have hle2 := val_take_le l (m + 1)
                have hV := HV.out
                obtain ⟨c, hc⟩ : ∃ c : Nat, c = D[m].toNat - 48 := ⟨_, rfl⟩
                obtain ⟨y, hy⟩ : ∃ y : Nat, y = val (l.take m) := ⟨_, rfl⟩
                obtain ⟨z, hz⟩ : ∃ z : Nat, z = val (l.take (m + 1)) := ⟨_, rfl⟩
                rw [← hz, ← hy, ← hc] at hnx
                rw [← hz] at hle2
                rw [← hy]
                have HZ := Lib.hid hz
                have i0 : (m : Int) < D.size := by omega
                have q1 : IntKind.u8.wrap ((D[m].toNat : Int) - 48) = (c : Int) := by rw [wrap_u8 (by omega) (by omega)]; omega
                have q2 : IntKind.i64.wrap (c : Int) = (c : Int) := wrap_in (by omega) (by omega)
                have q3 : IntKind.i64.wrap (10 * (y : Int)) = 10 * (y : Int) := wrap_in (by omega) (by omega)
                have q4 : IntKind.i64.wrap (10 * (y : Int) + (c : Int)) = (z : Int) := by rw [wrap_in (by omega) (by omega)]; omega
                have q5 : IntKind.i64.wrap ((m : Int) + 1) = ((m + 1 : Nat) : Int) := wrap_in (by omega) (by have := HS.out; omega)
                have q6 : (m : Int) < (n : Int) := by omega
                clear hx hd hnx hle2 hV hc hy hz hle
                go_wp2_with fail
                go_roundw
                case rel => exact ⟨trivial, m + 1, rfl, by rw [← HZ.out], by omega⟩
                case measure => simp [intOf]; omega
              · have hmn : n = m := by omega
                have hfull : val (l.take m) = val l := by rw [← hmn, HL.out, List.take_length]
                rw [hfull]
                have q6 : (n : Int) ≤ (m : Int) := by omega
                have q7 : decide (m < n) = false := decide_eq_false (by omega)
                clear hmn hfull hle
                go_wp2_with fail
                go_quiet (fail)
                go_wp2_with fail
                go_ret3
                exact ⟨below_drewN (Below.refl _ _), rfl⟩
    · have h48 := h48.resolve_left hone
      have hx : S[0].toNat ≠ 48 := fun e => h48 (by rw [HH.out z0 (by omega)]; exact congrArg some (UInt8.toNat_inj.1 e))
      have g1 : (1 : Int) < n := by omega
      have g2 : ((S[0].toNat : Int) == 48) = false := ne_b (by omega)
      have g3 : (0 : Int) < S.size := by omega
      clear h1 h19 h48 hone hx
      go_enter Tryd.func45, Tryd.ntmps45
      go_wp2_with fail
      go_loopw [5] (fun i wr => wr = w ∧ ∃ k : Nat, i = .int .i64 (k : Int) ∧ k ≤ n) (fun i _ => n - (intOf i).toNat)
      case atStart => exact ⟨rfl, 0, rfl, by omega⟩
      case round =>
        obtain ⟨rfl, k, rfl, hk⟩ := hrel
        by_cases hkn : k < n
        · have hks : k < S.size := by have := BY.out.le; omega
          obtain ⟨d1, d2⟩ := BY.out.dig k hks hkn
          have e0 : (k : Int) < S.size := by omega
          have e1 : (48 : Int) ≤ (S[k].toNat : Int) := by omega
          have e2 : (S[k].toNat : Int) ≤ 57 := by omega
          have ew : IntKind.i64.wrap ((k : Int) + 1) = ((k + 1 : Nat) : Int) := wrap_in (by omega) (by have := HS.out; omega)
          clear d1 d2
          go_wp2_with fail
          go_roundw
          case rel => exact ⟨trivial, k + 1, rfl, by omega⟩
          case measure => simp [intOf]; omega
        · have hkn : n = k := by omega
          subst hkn
          by_cases he : n < S.size
          · rcases BY.out.end_ he with h | h
            · have e0 : (n : Int) < S.size := by omega
              have e1 : (S[n].toNat : Int) < 48 := by omega
              clear h
              go_wp2_with fail
              go_loopw [7, 8] (fun a i wq => wq = wr ∧ ∃ m : Nat, i = .int .i64 (m : Int) ∧ a = .int .i64 (val (l.take m) : Int) ∧ m ≤ n) (fun _ i _ => n - (intOf i).toNat)
              case atStart => exact ⟨rfl, 0, rfl, rfl, by omega⟩
              case round =>
                obtain ⟨rfl, m, rfl, rfl, hm⟩ := hrel
                have hle := val_take_le l m
                by_cases hmn : m < n
                · have hmz : m < D.size := by have := HDz.out; omega
                  have hx : l[m]? = some D[m] := HDl.out ▸ bl_get D m hmz
                  have hd : 48 ≤ D[m].toNat ∧ D[m].toNat ≤ 57 := isD_iff.1 (HDig.out _ (List.mem_of_getElem? hx))
                  have hnx := val_next hx
                  have hle2 := val_take_le l (m + 1)
                  have hV := HV.out
                  obtain ⟨c, hc⟩ : ∃ c : Nat, c = D[m].toNat - 48 := ⟨_, rfl⟩
                  obtain ⟨y, hy⟩ : ∃ y : Nat, y = val (l.take m) := ⟨_, rfl⟩
                  obtain ⟨z, hz⟩ : ∃ z : Nat, z = val (l.take (m + 1)) := ⟨_, rfl⟩
                  rw [← hz, ← hy, ← hc] at hnx
                  rw [← hz] at hle2
                  rw [← hy]
                  have HZ := Lib.hid hz
                  have i0 : (m : Int) < D.size := by omega
                  have q1 : IntKind.u8.wrap ((D[m].toNat : Int) - 48) = (c : Int) := by rw [wrap_u8 (by omega) (by omega)]; omega
                  have q2 : IntKind.i64.wrap (c : Int) = (c : Int) := wrap_in (by omega) (by omega)
                  have q3 : IntKind.i64.wrap (10 * (y : Int)) = 10 * (y : Int) := wrap_in (by omega) (by omega)
                  have q4 : IntKind.i64.wrap (10 * (y : Int) + (c : Int)) = (z : Int) := by rw [wrap_in (by omega) (by omega)]; omega
                  have q5 : IntKind.i64.wrap ((m : Int) + 1) = ((m + 1 : Nat) : Int) := wrap_in (by omega) (by have := HS.out; omega)
                  have q6 : (m : Int) < (n : Int) := by omega
                  clear hx hd hnx hle2 hV hc hy hz hle
                  go_wp2_with fail
                  go_roundw
                  case rel => exact ⟨trivial, m + 1, rfl, by rw [← HZ.out], by omega⟩
                  case measure => simp [intOf]; omega
                · have hmn : n = m := by omega
                  have hfull : val (l.take m) = val l := by rw [← hmn, HL.out, List.take_length]
                  rw [hfull]
                  have q6 : (n : Int) ≤ (m : Int) := by omega
                  have q7 : decide (m < n) = false := decide_eq_false (by omega)
                  clear hmn hfull hle
                  go_wp2_with fail
                  go_quiet (fail)
                  go_wp2_with fail
                  go_ret3
                  exact ⟨below_drewN (Below.refl _ _), rfl⟩
            · have e0 : (n : Int) < S.size := by omega
              have e1 : (48 : Int) ≤ (S[n].toNat : Int) := by omega
              have e2 : (57 : Int) < (S[n].toNat : Int) := by omega
              clear h
              go_wp2_with fail
              go_loopw [7, 8] (fun a i wq => wq = wr ∧ ∃ m : Nat, i = .int .i64 (m : Int) ∧ a = .int .i64 (val (l.take m) : Int) ∧ m ≤ n) (fun _ i _ => n - (intOf i).toNat)
              case atStart => exact ⟨rfl, 0, rfl, rfl, by omega⟩
              case round =>
                obtain ⟨rfl, m, rfl, rfl, hm⟩ := hrel
                have hle := val_take_le l m
                by_cases hmn : m < n
                · have hmz : m < D.size := by have := HDz.out; omega
                  have hx : l[m]? = some D[m] := HDl.out ▸ bl_get D m hmz
                  have hd : 48 ≤ D[m].toNat ∧ D[m].toNat ≤ 57 := isD_iff.1 (HDig.out _ (List.mem_of_getElem? hx))
                  have hnx := val_next hx
                  have hle2 := val_take_le l (m + 1)
                  have hV := HV.out
                  obtain ⟨c, hc⟩ : ∃ c : Nat, c = D[m].toNat - 48 := ⟨_, rfl⟩
                  obtain ⟨y, hy⟩ : ∃ y : Nat, y = val (l.take m) := ⟨_, rfl⟩
                  obtain ⟨z, hz⟩ : ∃ z : Nat, z = val (l.take (m + 1)) := ⟨_, rfl⟩
                  rw [← hz, ← hy, ← hc] at hnx
                  rw [← hz] at hle2
                  rw [← hy]
                  have HZ := Lib.hid hz
                  have i0 : (m : Int) < D.size := by omega
                  have q1 : IntKind.u8.wrap ((D[m].toNat : Int) - 48) = (c : Int) := by rw [wrap_u8 (by omega) (by omega)]; omega
                  have q2 : IntKind.i64.wrap (c : Int) = (c : Int) := wrap_in (by omega) (by omega)
                  have q3 : IntKind.i64.wrap (10 * (y : Int)) = 10 * (y : Int) := wrap_in (by omega) (by omega)
                  have q4 : IntKind.i64.wrap (10 * (y : Int) + (c : Int)) = (z : Int) := by rw [wrap_in (by omega) (by omega)]; omega
                  have q5 : IntKind.i64.wrap ((m : Int) + 1) = ((m + 1 : Nat) : Int) := wrap_in (by omega) (by have := HS.out; omega)
                  have q6 : (m : Int) < (n : Int) := by omega
                  clear hx hd hnx hle2 hV hc hy hz hle
                  go_wp2_with fail
                  go_roundw
                  case rel => exact ⟨trivial, m + 1, rfl, by rw [← HZ.out], by omega⟩
                  case measure => simp [intOf]; omega
                · have hmn : n = m := by omega
                  have hfull : val (l.take m) = val l := by rw [← hmn, HL.out, List.take_length]
                  rw [hfull]
                  have q6 : (n : Int) ≤ (m : Int) := by omega
                  have q7 : decide (m < n) = false := decide_eq_false (by omega)
                  clear hmn hfull hle
                  go_wp2_with fail
                  go_quiet (fail)
                  go_wp2_with fail
                  go_ret3
                  exact ⟨below_drewN (Below.refl _ _), rfl⟩
          · have e0 : (S.size : Int) ≤ n := by omega
            go_wp2_with fail
            go_loopw [7, 8] (fun a i wq => wq = wr ∧ ∃ m : Nat, i = .int .i64 (m : Int) ∧ a = .int .i64 (val (l.take m) : Int) ∧ m ≤ n) (fun _ i _ => n - (intOf i).toNat)
            case atStart => exact ⟨rfl, 0, rfl, rfl, by omega⟩
            case round =>
              obtain ⟨rfl, m, rfl, rfl, hm⟩ := hrel
              have hle := val_take_le l m
              by_cases hmn : m < n
              · have hmz : m < D.size := by have := HDz.out; omega
                have hx : l[m]? = some D[m] := HDl.out ▸ bl_get D m hmz
                have hd : 48 ≤ D[m].toNat ∧ D[m].toNat ≤ 57 := isD_iff.1 (HDig.out _ (List.mem_of_getElem? hx))
                have hnx := val_next hx
                have hle2 := val_take_le l (m + 1)
                have hV := HV.out
                obtain ⟨c, hc⟩ : ∃ c : Nat, c = D[m].toNat - 48 := ⟨_, rfl⟩
                obtain ⟨y, hy⟩ : ∃ y : Nat, y = val (l.take m) := ⟨_, rfl⟩
                obtain ⟨z, hz⟩ : ∃ z : Nat, z = val (l.take (m + 1)) := ⟨_, rfl⟩
                rw [← hz, ← hy, ← hc] at hnx
                rw [← hz] at hle2
                rw [← hy]
                have HZ := Lib.hid hz
                have i0 : (m : Int) < D.size := by omega
                have q1 : IntKind.u8.wrap ((D[m].toNat : Int) - 48) = (c : Int) := by rw [wrap_u8 (by omega) (by omega)]; omega
                have q2 : IntKind.i64.wrap (c : Int) = (c : Int) := wrap_in (by omega) (by omega)
                have q3 : IntKind.i64.wrap (10 * (y : Int)) = 10 * (y : Int) := wrap_in (by omega) (by omega)
                have q4 : IntKind.i64.wrap (10 * (y : Int) + (c : Int)) = (z : Int) := by rw [wrap_in (by omega) (by omega)]; omega
                have q5 : IntKind.i64.wrap ((m : Int) + 1) = ((m + 1 : Nat) : Int) := wrap_in (by omega) (by have := HS.out; omega)
                have q6 : (m : Int) < (n : Int) := by omega
                clear hx hd hnx hle2 hV hc hy hz hle
                go_wp2_with fail
                go_roundw
                case rel => exact ⟨trivial, m + 1, rfl, by rw [← HZ.out], by omega⟩
                case measure => simp [intOf]; omega
              · have hmn : n = m := by omega
                have hfull : val (l.take m) = val l := by rw [← hmn, HL.out, List.take_length]
                rw [hfull]
                have q6 : (n : Int) ≤ (m : Int) := by omega
                have q7 : decide (m < n) = false := decide_eq_false (by omega)
                clear hmn hfull hle
                go_wp2_with fail
                go_quiet (fail)
                go_wp2_with fail
                go_ret3
                exact ⟨below_drewN (Below.refl _ _), rfl⟩
theorem rNumber (s : List UInt8) (hs : s.length ≤ 140737488355328) (w : World) : Calls Tryd.prog 45 #[strv s] w (NumR s w) :=
  rNumberS ⟨s.toArray⟩ (by rw [bsz]; exact hs) w
end Jo
end Go.Proofs.YtileonenphmkkaaDoor
