/- A store as values: what each call makes of it; what stays true. No code. -/
import Derived.Test.YtpjgdpdgfchhkaaProg
namespace Go.Proofs.Ytpjgdpdgfchhkaa
set_option linter.unusedVariables false
set_option maxRecDepth 8000
namespace So
abbrev less (x y : List UInt8) : Bool := Op.bytesLess x y
theorem less_cons (a b : UInt8) (x y : List UInt8) : less (a :: x) (b :: y) = true ↔ a < b ∨ (a = b ∧ less x y = true) := by
  simp [less, Op.bytesLess]
theorem less_irrefl : ∀ (x : List UInt8), less x x = false
  | [] => rfl
  | a :: x => by
    have ih := less_irrefl x
    simp only [less, Op.bytesLess] at ih ⊢
    simp [ih]
theorem less_trans : ∀ (x y z : List UInt8), less x y = true → less y z = true → less x z = true
  | [], [], _, h, _ => by simp [less, Op.bytesLess] at h
  | [], _ :: _, [], _, h => by simp [less, Op.bytesLess] at h
  | [], _ :: _, _ :: _, _, _ => by simp [less, Op.bytesLess]
  | _ :: _, [], _, h, _ => by simp [less, Op.bytesLess] at h
  | _ :: _, _ :: _, [], _, h => by simp [less, Op.bytesLess] at h
  | a :: x, b :: y, c :: z, h1, h2 => by
    have ih := less_trans x y z
    rw [less_cons] at h1 h2 ⊢
    rcases h1 with h1 | ⟨rfl, h1⟩
    · rcases h2 with h2 | ⟨rfl, h2⟩
      · exact .inl (UInt8.lt_trans h1 h2)
      · exact .inl h1
    · rcases h2 with h2 | ⟨rfl, h2⟩
      · exact .inl h2
      · exact .inr ⟨rfl, ih h1 h2⟩
theorem less_total : ∀ (x y : List UInt8), less x y = true ∨ x = y ∨ less y x = true
  | [], [] => by simp
  | [], _ :: _ => by simp [less, Op.bytesLess]
  | _ :: _, [] => by simp [less, Op.bytesLess]
  | a :: x, b :: y => by
    have ih := less_total x y
    rw [less_cons, less_cons]
    by_cases h : a = b
    · subst h
      rcases ih with h | rfl | h
      · exact .inl (.inr ⟨rfl, h⟩)
      · exact .inr (.inl rfl)
      · exact .inr (.inr (.inr ⟨rfl, h⟩))
    · by_cases h2 : a < b
      · exact .inl (.inl h2)
      · refine .inr (.inr (.inl ?_))
        rw [UInt8.lt_iff_toNat_lt] at h2 ⊢
        have h3 : a.toNat ≠ b.toNat := fun e => h (UInt8.toNat_inj.1 e)
        omega
theorem less_ne {x y : List UInt8} (h : less x y = true) : x ≠ y := fun e => by rw [e, less_irrefl] at h; cases h
/-- A cell: its name, its bytes. -/
structure Cl where
  n : List UInt8
  b : List UInt8
deriving DecidableEq
instance : Inhabited Cl := ⟨⟨[], []⟩⟩
/-- A store. -/
structure Sr where
  cells : List Cl
  fresh : List Cl
  down : Bool
deriving DecidableEq
def zS : Sr := ⟨[], [], false⟩
def mayB (c : Cl) : Bool := decide ((1 ≤ c.n.length ∧ c.n.length ≤ 16) ∧ c.b.length ≤ 4096)
def cellOk (c : Cl) : Bool := mayB c && !decide (c.b = [])
def rise : List Cl → Bool
  | x :: y :: r => less x.n y.n && rise (y :: r)
  | _ => true
def rightS (s : Sr) : Bool := (s.cells.all cellOk && rise s.cells) && (s.fresh.all mayB && decide (s.cells.length ≤ 64 ∧ s.fresh.length ≤ 64))
theorem rise_iff : ∀ (l : List Cl), rise l = true ↔ ∀ (i : Nat) (x y : Cl), l[i]? = some x → l[i + 1]? = some y → less x.n y.n = true
  | [] => by simp [rise]
  | [a] => by simp [rise]
  | a :: b :: r => by
    rw [rise, Bool.and_eq_true, rise_iff (b :: r)]
    constructor
    · rintro ⟨h1, h2⟩ i x y hx hy
      cases i with
      | zero =>
        simp only [List.getElem?_cons_zero, Option.some.injEq] at hx
        simp only [List.getElem?_cons_succ, List.getElem?_cons_zero, Option.some.injEq] at hy
        rw [← hx, ← hy]; exact h1
      | succ i =>
        rw [List.getElem?_cons_succ] at hx hy
        exact h2 i x y hx hy
    · intro h
      exact ⟨h 0 a b rfl rfl, fun i x y hx hy => h (i + 1) x y (by rw [List.getElem?_cons_succ]; exact hx) (by rw [List.getElem?_cons_succ]; exact hy)⟩
theorem rise_pair : ∀ (l : List Cl), rise l = true ↔ l.Pairwise fun x y => less x.n y.n = true
  | [] => by simp [rise]
  | [a] => by simp [rise]
  | a :: b :: r => by
    rw [rise, Bool.and_eq_true, rise_pair (b :: r), List.pairwise_cons (a := a)]
    constructor
    · rintro ⟨h1, h2⟩
      refine ⟨fun y hy => ?_, h2⟩
      rcases List.mem_cons.1 hy with rfl | hy
      · exact h1
      · exact less_trans _ _ _ h1 ((List.pairwise_cons.1 h2).1 y hy)
    · rintro ⟨h1, h2⟩
      exact ⟨h1 b (by simp), h2⟩
/-- Cells that count. -/
structure Good (l : List Cl) : Prop where
  each : ∀ x ∈ l, cellOk x = true
  rise : l.Pairwise fun x y => less x.n y.n = true
structure Ok (s : Sr) : Prop where
  good : Good s.cells
  fresh : ∀ x ∈ s.fresh, mayB x = true
  len : s.cells.length ≤ 64 ∧ s.fresh.length ≤ 64
theorem ok_iff (s : Sr) : rightS s = true ↔ Ok s := by
  unfold rightS
  rw [Bool.and_eq_true, Bool.and_eq_true, Bool.and_eq_true, List.all_eq_true, List.all_eq_true, decide_eq_true_eq, rise_pair]
  exact ⟨fun ⟨⟨h1, h2⟩, h3, h4⟩ => ⟨⟨h1, h2⟩, h3, h4⟩, fun h => ⟨⟨h.good.each, h.good.rise⟩, h.fresh, h.len⟩⟩
/-- A cell comes to count; put: it is there already (or is none). -/
def wi : Bool → List Cl → Cl → List Cl
  | put, [], x => if put then [] else [x]
  | put, c :: r, x => (if !put && !less c.n x.n then [x] else []) ++ ((if c.n ≠ x.n then [c] else []) ++ wi (put || !less c.n x.n) r x)
def withC (l : List Cl) (x : Cl) : List Cl := wi (decide (x.b = [])) l x
def count (l fresh : List Cl) : List Cl := fresh.foldl withC l
def writeO (s : Sr) (n b : List UInt8) : Sr × Int :=
  if rightS s = false ∨ mayB ⟨n, b⟩ = false then (zS, 1) else if s.down then (zS, 170) else if s.fresh.length = 64 then (zS, 3) else (⟨s.cells, s.fresh ++ [⟨n, b⟩], false⟩, 0)
def commitO (s : Sr) : Sr × Int :=
  if rightS s = false then (zS, 1) else if s.down then (zS, 170) else if 64 < (count s.cells s.fresh).length then (zS, 3) else (⟨count s.cells s.fresh, [], false⟩, 0)
def readO (s : Sr) (n : List UInt8) : List UInt8 × Int :=
  if rightS s = false then ([], 1) else if s.down then ([], 170) else match s.cells.find? (fun c => decide (c.n = n)) with | some c => (c.b, 0) | none => ([], 171)
def startO (s : Sr) : Sr × Int := if rightS s = false then (zS, 1) else (⟨s.cells, [], false⟩, 0)
def runB : Sr → List Cl → Int → Sr × Int
  | s, [], left => if left = 0 then (⟨s.cells, s.fresh, true⟩, 170) else commitO s
  | s, c :: r, left => if left = 0 then (⟨s.cells, s.fresh, true⟩, 170) else if (writeO s c.n c.b).2 = 0 then runB (writeO s c.n c.b).1 r (left - 1) else (zS, (writeO s c.n c.b).2)
def batchO (s : Sr) (cells : List Cl) (left : Int) : Sr × Int :=
  if cells.all mayB = false then (zS, 1) else if rightS s = false then (zS, 1) else if s.down then (zS, 170) else runB s cells left
/-! what comes to count -/
theorem mem_wi (x c : Cl) : ∀ (l : List Cl) (put : Bool), c ∈ wi put l x ↔ (c ∈ l ∧ c.n ≠ x.n) ∨ (put = false ∧ c = x)
  | [], put => by cases put <;> simp [wi]
  | d :: r, put => by
    have ih := mem_wi x c r
    simp only [wi, List.mem_append]
    rw [ih]
    constructor
    · rintro (h | h | ⟨h1, h2⟩ | ⟨h1, h2⟩)
      · cases put <;> cases hl : less d.n x.n <;> simp [hl] at h
        exact .inr ⟨rfl, h⟩
      · split at h
        · rename_i hd
          rw [List.mem_singleton.1 h]
          exact .inl ⟨by simp, hd⟩
        · cases h
      · exact .inl ⟨List.mem_cons_of_mem _ h1, h2⟩
      · rw [Bool.or_eq_false_iff] at h1
        exact .inr ⟨h1.1, h2⟩
    · rintro (⟨h1, h2⟩ | ⟨rfl, rfl⟩)
      · rcases List.mem_cons.1 h1 with rfl | h1
        · exact .inr (.inl (by rw [if_pos h2]; simp))
        · exact .inr (.inr (.inl ⟨h1, h2⟩))
      · cases hl : less d.n c.n
        · exact .inl (by simp)
        · exact .inr (.inr (.inr ⟨rfl, rfl⟩))
theorem mem_with (l : List Cl) (x c : Cl) : c ∈ withC l x ↔ (c ∈ l ∧ c.n ≠ x.n) ∨ (x.b ≠ [] ∧ c = x) := by
  unfold withC
  rw [mem_wi, decide_eq_false_iff_not]
theorem wi_rise (x : Cl) : ∀ (l : List Cl) (put : Bool), l.Pairwise (fun x y => less x.n y.n = true) → (wi put l x).Pairwise (fun x y => less x.n y.n = true)
  | [], put, _ => by cases put <;> simp [wi]
  | d :: r, put, h => by
    obtain ⟨h1, h2⟩ := List.pairwise_cons.1 h
    have ih := fun p => wi_rise x r p h2
    have tail : ∀ p, ((if d.n ≠ x.n then [d] else []) ++ wi (p || !less d.n x.n) r x).Pairwise (fun x y => less x.n y.n = true) := by
      intro p
      split
      · rename_i hd
        refine List.pairwise_cons.2 ⟨fun y hy => ?_, ih _⟩
        rcases (mem_wi x y r _).1 hy with ⟨hy1, _⟩ | ⟨hp, rfl⟩
        · exact h1 y hy1
        · rw [Bool.or_eq_false_iff] at hp
          simpa using hp.2
      · exact ih _
    simp only [wi]
    split
    · rename_i hc
      rw [Bool.and_eq_true] at hc
      have hge : less d.n x.n = false := by simpa using hc.2
      refine List.pairwise_append.2 ⟨by simp, tail put, fun a ha y hy => ?_⟩
      rw [List.mem_singleton.1 ha]
      have hge2 : d.n = x.n ∨ less x.n d.n = true := by
        rcases less_total d.n x.n with h | h | h
        · rw [hge] at h; cases h
        · exact .inl h
        · exact .inr h
      rcases List.mem_append.1 hy with hy | hy
      · split at hy
        · rename_i hd
          rw [List.mem_singleton.1 hy]
          exact hge2.resolve_left hd
        · cases hy
      · rcases (mem_wi x y r _).1 hy with ⟨hy1, _⟩ | ⟨hp, _⟩
        · rcases hge2 with e | e
          · rw [← e]; exact h1 y hy1
          · exact less_trans _ _ _ e (h1 y hy1)
        · rw [hge] at hp; simp at hp
    · exact tail put
theorem wi_len (x : Cl) : ∀ (l : List Cl) (put : Bool), (wi put l x).length ≤ l.length + (if put then 0 else 1)
  | [], put => by cases put <;> simp [wi]
  | d :: r, put => by
    have ih := wi_len x r
    have h0 := ih (put || !less d.n x.n)
    simp only [wi, List.length_append, List.length_cons]
    have h1 : (if d.n ≠ x.n then [d] else ([] : List Cl)).length ≤ 1 := by split <;> simp
    cases put
    · cases hl : less d.n x.n
      · rw [hl] at h0; simp at h0 ⊢; simp at h1; omega
      · rw [hl] at h0; simp at h0 ⊢; simp at h1; omega
    · simp at h0 h1 ⊢; omega
theorem with_len (l : List Cl) (x : Cl) : (withC l x).length ≤ l.length + 1 := by
  have := wi_len x l (decide (x.b = []))
  unfold withC
  split at this <;> omega
theorem with_good {l : List Cl} (h : Good l) {x : Cl} (hx : mayB x = true) : Good (withC l x) := by
  refine ⟨fun c hc => ?_, wi_rise x l _ h.rise⟩
  rcases (mem_with l x c).1 hc with ⟨h1, _⟩ | ⟨h1, rfl⟩
  · exact h.each c h1
  · unfold cellOk; rw [hx]; simp [h1]
theorem count_good : ∀ {f l : List Cl}, Good l → (∀ x ∈ f, mayB x = true) → Good (count l f)
  | [], l, h, _ => h
  | x :: f, l, h, hf => count_good (f := f) (with_good h (hf x (by simp))) fun y hy => hf y (List.mem_cons_of_mem _ hy)
theorem count_len : ∀ (f l : List Cl), (count l f).length ≤ l.length + f.length
  | [], l => by simp [count]
  | x :: f, l => by
    have h1 := count_len f (withC l x)
    have h2 := with_len l x
    simp only [List.length_cons]
    show (count (withC l x) f).length ≤ _
    omega
theorem count_next {f : List Cl} {l : List Cl} {k : Nat} {x : Cl} (h : f[k]? = some x) : count l (f.take (k + 1)) = withC (count l (f.take k)) x := by
  unfold count
  rw [List.take_add_one, h, List.foldl_append]
  rfl
theorem find_good {l : List Cl} (h : Good l) {c : Cl} (hc : c ∈ l) : l.find? (fun d => decide (d.n = c.n)) = some c := by
  have hp := h.rise
  clear h
  induction l with
  | nil => cases hc
  | cons d r ih =>
    obtain ⟨h1, h2⟩ := List.pairwise_cons.1 hp
    rw [List.find?_cons]
    rcases List.mem_cons.1 hc with rfl | hc
    · simp
    · have hne : d.n ≠ c.n := less_ne (h1 c hc)
      rw [decide_eq_false hne]
      exact ih hc h2
theorem find_none {l : List Cl} {m : List UInt8} (h : ∀ c ∈ l, c.n ≠ m) : l.find? (fun d => decide (d.n = m)) = none :=
  List.find?_eq_none.2 fun c hc => by simpa using h c hc
/-! batches -/
theorem write_eq {s : Sr} (h : Ok s) {n b : List UInt8} (hm : mayB ⟨n, b⟩ = true) (hd : s.down = false) (hl : s.fresh.length ≠ 64) : writeO s n b = (⟨s.cells, s.fresh ++ [⟨n, b⟩], false⟩, 0) := by
  unfold writeO
  rw [if_neg (by rw [(ok_iff s).2 h, hm]; simp), hd, if_neg (by simp), if_neg hl]
theorem write_full {s : Sr} (h : Ok s) {n b : List UInt8} (hm : mayB ⟨n, b⟩ = true) (hd : s.down = false) (hl : s.fresh.length = 64) : writeO s n b = (zS, 3) := by
  unfold writeO
  rw [if_neg (by rw [(ok_iff s).2 h, hm]; simp), hd, if_neg (by simp), if_pos hl]
theorem write_ok {s : Sr} (h : Ok s) {n b : List UInt8} (hm : mayB ⟨n, b⟩ = true) (hl : s.fresh.length ≠ 64) : Ok ⟨s.cells, s.fresh ++ [⟨n, b⟩], false⟩ :=
  ⟨h.good, fun x hx => by
    rcases List.mem_append.1 hx with h1 | h1
    · exact h.fresh x h1
    · rw [List.mem_singleton.1 h1]; exact hm, ⟨h.len.1, by show (s.fresh ++ [_]).length ≤ 64; rw [List.length_append]; have := h.len.2; simp; omega⟩⟩
/-- How a batch ends. -/
inductive Ends (C all : List Cl) (left : Int) (o : Sr × Int) : Prop where
  | done (h : o = (⟨count C all, [], false⟩, 0)) (ok : Ok o.1)
  | torn (f : List Cl) (h : o = (⟨C, f, true⟩, 170)) (ok : Ok o.1) (l0 : 0 ≤ left) (l1 : left ≤ all.length)
  | not (e : Int) (h : o = (zS, e)) (he : e = 1 ∨ e = 3)
theorem run_ends (C : List Cl) (hC : Good C) (hC64 : C.length ≤ 64) : ∀ (r f : List Cl) (left : Int), (∀ x ∈ f, mayB x = true) → (∀ x ∈ r, mayB x = true) → f.length ≤ 64 →
    ((runB ⟨C, f, false⟩ r left = (⟨count C (f ++ r), [], false⟩, 0) ∧ (count C (f ++ r)).length ≤ 64) ∨
     (∃ k : Nat, runB ⟨C, f, false⟩ r left = (⟨C, f ++ r.take k, true⟩, 170) ∧ left = (k : Int) ∧ k ≤ r.length ∧ (f ++ r.take k).length ≤ 64) ∨ runB ⟨C, f, false⟩ r left = (zS, 3))
  | [], f, left, hf, _, hl => by
    have hok : Ok ⟨C, f, false⟩ := ⟨hC, hf, ⟨hC64, hl⟩⟩
    unfold runB
    by_cases h0 : left = 0
    · rw [if_pos h0]
      exact .inr (.inl ⟨0, by simp, by simpa using h0, Nat.zero_le _, by simpa using hl⟩)
    · rw [if_neg h0]
      unfold commitO
      rw [(ok_iff _).2 hok, if_neg (by simp), if_neg (by simp), List.append_nil]
      by_cases h64 : 64 < (count C f).length
      · rw [if_pos h64]; exact .inr (.inr rfl)
      · rw [if_neg h64]; exact .inl ⟨rfl, by omega⟩
  | x :: r, f, left, hf, hr, hl => by
    have hok : Ok ⟨C, f, false⟩ := ⟨hC, hf, ⟨hC64, hl⟩⟩
    have hx := hr x (by simp)
    unfold runB
    by_cases h0 : left = 0
    · rw [if_pos h0]
      exact .inr (.inl ⟨0, by simp, by simpa using h0, Nat.zero_le _, by simpa using hl⟩)
    · rw [if_neg h0]
      by_cases h64 : f.length = 64
      · rw [write_full hok hx rfl h64, if_neg (by decide)]
        exact .inr (.inr rfl)
      · rw [write_eq hok hx rfl h64, if_pos rfl]
        have ih := run_ends C hC hC64 r (f ++ [x]) (left - 1) (fun y hy => (write_ok hok hx h64).fresh y hy) (fun y hy => hr y (List.mem_cons_of_mem _ hy)) (by rw [List.length_append]; simp; omega)
        have e : f ++ [x] ++ r = f ++ x :: r := by simp
        have ex : (⟨x.n, x.b⟩ : Cl) = x := rfl
        rw [e] at ih
        show (runB ⟨C, f ++ [x], false⟩ r (left - 1) = _ ∧ _) ∨ _
        rcases ih with h | ⟨k, h1, h2, h3, h4⟩ | h
        · exact .inl h
        · refine .inr (.inl ⟨k + 1, by rw [List.take_succ_cons]; rw [show f ++ x :: r.take k = f ++ [x] ++ r.take k by simp]; exact h1, by omega, by simp; omega, by rw [List.take_succ_cons, show f ++ x :: r.take k = f ++ [x] ++ r.take k by simp]; exact h4⟩)
        · exact .inr (.inr h)
theorem batch_ends {s : Sr} (h : Ok s) (hd : s.down = false) (hf : s.fresh = []) (cells : List Cl) (left : Int) : Ends s.cells cells left (batchO s cells left) := by
  unfold batchO
  by_cases h1 : cells.all mayB = false
  · rw [if_pos h1]; exact .not 1 rfl (.inl rfl)
  · rw [if_neg h1, (ok_iff s).2 h, if_neg (by simp), hd, if_neg (by simp)]
    have hm : ∀ x ∈ cells, mayB x = true := List.all_eq_true.1 (by simpa using h1)
    have es : s = ⟨s.cells, [], false⟩ := by cases s; simp_all
    have hr := run_ends s.cells h.good h.len.1 cells [] left (by simp) hm (by simp)
    rw [List.nil_append] at hr
    rw [es]
    rcases hr with ⟨hr, hl⟩ | ⟨k, hr, hk, hkl, hl⟩ | hr
    · rw [hr]
      exact .done rfl ⟨count_good h.good hm, by simp, ⟨hl, by simp⟩⟩
    · rw [hr]
      rw [List.nil_append] at hl ⊢
      exact .torn _ rfl ⟨h.good, fun x hx => hm x (List.mem_of_mem_take hx), ⟨h.len.1, hl⟩⟩ (by omega) (by omega)
    · rw [hr]; exact .not 3 rfl (.inr rfl)
end So
end Go.Proofs.Ytpjgdpdgfchhkaa
