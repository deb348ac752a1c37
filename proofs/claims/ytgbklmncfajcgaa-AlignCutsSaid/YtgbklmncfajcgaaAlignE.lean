/- The mathematics of AlignCuts: what stays true while items are offered. No code. -/
import Derived.Test.YtgbklmncfajcgaaAlignM
import Derived.Test.YtgbklmncfajcgaaAlignNs
namespace Go.Proofs.Ytgbklmncfajcgaa
set_option linter.unusedVariables false
set_option maxRecDepth 8000
namespace Aln
open Itm
abbrev barIt (n : Int) : It := ⟨4, ⟨#[]⟩, 0, 0, 0, n, 0, 0, ⟨#[]⟩, 0, 0⟩
open Gen (Mine) in
theorem mine_set3A (w : World) (b : Nat) (v0 v1 v2 : Value) : Mine (· = b) w (set3A w b v0 v1 v2) :=
  ((Mine.set (M := (· = b)) w (a := ⟨b, 0, none⟩) v0 rfl).trans (Mine.set _ (M := (· = b)) (a := ⟨b, 1, none⟩) v1 rfl)).trans (Mine.set _ (M := (· = b)) (a := ⟨b, 2, none⟩) v2 rfl)
/-- Items, cut at their barriers. -/
def cutsR : List It → List (List It)
  | [] => [[]]
  | x :: r => if x.k = 4 then [] :: cutsR r else match cutsR r with | [] => [[x]] | s :: t => (x :: s) :: t
theorem cuts_ne : ∀ (l : List It), cutsR l ≠ []
  | [] => by simp [cutsR]
  | x :: r => by
    unfold cutsR
    split
    · simp
    · split <;> simp
def nobar (l : List It) : Prop := ∀ x ∈ l, x.k ≠ 4
theorem cuts_app : ∀ (p : List It) (b : It) (r : List It), nobar p → b.k = 4 → cutsR (p ++ b :: r) = p :: cutsR r
  | [], b, r, _, hb => by
    show cutsR (b :: r) = _
    rw [cutsR, if_pos hb]
  | x :: p, b, r, hp, hb => by
    have ih := cuts_app p b r (fun y hy => hp y (List.mem_cons_of_mem _ hy)) hb
    rw [List.cons_append, cutsR, if_neg (hp x (by simp)), ih]
theorem cuts_nobar : ∀ (p : List It), nobar p → cutsR p = [p]
  | [], _ => rfl
  | x :: p, hp => by
    have ih := cuts_nobar p (fun y hy => hp y (List.mem_cons_of_mem _ hy))
    rw [cutsR, if_neg (hp x (by simp)), ih]
/-- One more item behind. -/
theorem cuts_snoc_bar : ∀ (p : List It) (x : It), x.k = 4 → cutsR (p ++ [x]) = cutsR p ++ [[]]
  | [], x, hx => by simp [cutsR, hx]
  | y :: p, x, hx => by
    have ih := cuts_snoc_bar p x hx
    rw [List.cons_append, cutsR, cutsR, ih]
    by_cases hy : y.k = 4
    · rw [if_pos hy, if_pos hy]; rfl
    · rw [if_neg hy, if_neg hy]
      cases e : cutsR p with
      | nil => exact absurd e (cuts_ne p)
      | cons s t => rfl
theorem cuts_snoc : ∀ (p : List It) (x : It), x.k ≠ 4 → ∃ t s, cutsR p = t ++ [s] ∧ cutsR (p ++ [x]) = t ++ [s ++ [x]]
  | [], x, hx => ⟨[], [], rfl, by simp [cutsR, hx]⟩
  | y :: p, x, hx => by
    obtain ⟨t, s, h1, h2⟩ := cuts_snoc p x hx
    rw [List.cons_append, cutsR, cutsR, h1, h2]
    by_cases hy : y.k = 4
    · rw [if_pos hy, if_pos hy]
      exact ⟨[] :: t, s, rfl, rfl⟩
    · rw [if_neg hy, if_neg hy]
      cases t with
      | nil => exact ⟨[], y :: s, rfl, rfl⟩
      | cons a t => exact ⟨(y :: a) :: t, s, rfl, rfl⟩
/-- Barriers are numbered in turn, behind c. -/
def numb : Nat → List It → Prop
  | _, [] => True
  | c, x :: r => if x.k = 4 then x.n = ((c + 1 : Nat) : Int) ∧ numb (c + 1) r else numb c r
theorem numb_app : ∀ (p : List It) (c : Nat) (r : List It), nobar p → (numb c (p ++ r) ↔ numb c r)
  | [], c, r, _ => Iff.rfl
  | x :: p, c, r, hp => by
    rw [List.cons_append, numb, if_neg (hp x (by simp))]
    exact numb_app p c r fun y hy => hp y (List.mem_cons_of_mem _ hy)
/-- What is true of one input: passed, held, still to be offered; the row. -/
structure One (B cut : Nat) (g : Bool) (p h q r : List It) : Prop where
  nb : nobar p
  hh : g = false → h = []
  run : ∃ (done cur : List (List It)) (c : List It), (if g then ∃ b : It, b.k = 4 ∧ c = p ++ b :: (h ++ q) else c = p ++ q) ∧ cutsR r = done ++ cutsR c ∧ done.length = cut ∧ numb cut c ∧ (∀ x ∈ c, right x = true) ∧ c.length ≤ 14
  len : (cutsR r).length = B + 1
structure Inv (B n : Nat) (rows : List (List It)) (a : Al) (passed : List (List It)) (cut : Nat) (pend : List (List It)) : Prop where
  ok : OkA a
  ng : a.got.length = n
  num : a.n = 0 ∨ a.n = ((cut + 1 : Nat) : Int)
  lp : passed.length = n
  lq : pend.length = n
  lr : rows.length = n
  each : ∀ (k : Nat) (g : Bool) (p h q r : List It), a.got[k]? = some g → passed[k]? = some p → a.held[k]? = some h → pend[k]? = some q → rows[k]? = some r → One B cut g p h q r
theorem Inv.at_ {B n : Nat} {rows : List (List It)} {a : Al} {passed : List (List It)} {cut : Nat} {pend : List (List It)} (h : Inv B n rows a passed cut pend) {k : Nat} (hk : k < n) :
    ∃ g p l q r, a.got[k]? = some g ∧ passed[k]? = some p ∧ a.held[k]? = some l ∧ pend[k]? = some q ∧ rows[k]? = some r ∧ One B cut g p l q r := by
  obtain ⟨g, hg⟩ : ∃ g, a.got[k]? = some g := ⟨_, List.getElem?_eq_getElem (by rw [h.ng]; exact hk)⟩
  obtain ⟨p, hp⟩ : ∃ p, passed[k]? = some p := ⟨_, List.getElem?_eq_getElem (by rw [h.lp]; exact hk)⟩
  obtain ⟨l, hl⟩ : ∃ l, a.held[k]? = some l := ⟨_, List.getElem?_eq_getElem (by rw [h.ok.hl, h.ng]; exact hk)⟩
  obtain ⟨q, hq⟩ : ∃ q, pend[k]? = some q := ⟨_, List.getElem?_eq_getElem (by rw [h.lq]; exact hk)⟩
  obtain ⟨r, hr⟩ : ∃ r, rows[k]? = some r := ⟨_, List.getElem?_eq_getElem (by rw [h.lr]; exact hk)⟩
  exact ⟨g, p, l, q, r, hg, hp, hl, hq, hr, h.each k g p l q r hg hp hl hq hr⟩
/-- What one offer does. -/
inductive Step (B n : Nat) (rows : List (List It)) (a : Al) (passed : List (List It)) (cut : Nat) (pend : List (List It)) (k : Nat) (x : It) (q : List It) (o : An) : Prop where
  | held (h : o = ⟨o.a, false, 0, [], 0⟩) (inv : Inv B n rows o.a passed cut (pend.set k q))
  | passes (p : List It) (hp : passed[k]? = some p) (h : o = ⟨o.a, true, 0, [], 0⟩) (inv : Inv B n rows o.a (passed.set k (p ++ [x])) cut (pend.set k q))
  | whole (h : o = ⟨anew n, false, ((cut + 1 : Nat) : Int), lateOf 0 a.held, 0⟩) (hB : cut + 1 ≤ B) (each : ∀ (i : Nat) (p r : List It), passed[i]? = some p → rows[i]? = some r → (cutsR r)[cut]? = some p)
      (inv : ∀ pend', pend'.length = n → (∀ (i : Nat) (l q' q2 : List It), a.held[i]? = some l → (pend.set k q)[i]? = some q' → pend'[i]? = some q2 → q2 = l ++ q') → Inv B n rows (anew n) (List.replicate n []) (cut + 1) pend')
theorem step {B n : Nat} {rows : List (List It)} {a : Al} {passed : List (List It)} {cut : Nat} {pend : List (List It)} (H : Inv B n rows a passed cut pend) {k : Nat} {x : It} {q : List It} (hk : k < n) (hq : pend[k]? = some (x :: q)) :
    Step B n rows a passed cut pend k x q (offerA a (k : Int) x 190) := by
  obtain ⟨g, p, l, q0, r, hg, hp, hl, hq0, hr, O⟩ := H.at_ hk
  rw [hq] at hq0
  cases hq0
  obtain ⟨done, _, c, hc, hcut, hdl, hnum, hrt, hlen⟩ := O.run
  have hxr : right x = true := by
    refine hrt x ?_
    cases g
    · simp only [Bool.false_eq_true, if_false] at hc; rw [hc]; simp
    · simp only [if_true] at hc; obtain ⟨b, _, hc⟩ := hc; rw [hc]; simp
  have ha : rightA a = true := (ok_iff a).2 H.ok
  have hkg : k < a.got.length := by rw [H.ng]; exact hk
  obtain ⟨o, ho⟩ : ∃ o, o = offerA a (k : Int) x 190 := ⟨_, rfl⟩
  have HW := how ha hkg x 190
  have HOK := offer_ok (a := a) (input := (k : Int)) (i := x) (stage := 190) (by decide)
  rw [← ho] at HW HOK ⊢
  clear ho
  cases g with
  | true =>
    simp only [if_true] at hc
    obtain ⟨b, hb, hc⟩ := hc
    have hl16 : l.length < 16 := by
      have : c.length = p.length + (1 + (l.length + (1 + q.length))) := by rw [hc]; simp; omega
      omega
    rcases HW with ⟨hi, h⟩ | ⟨l', _, hl', hn, h⟩ | ⟨l', hi, _, hl', hn, h⟩ | ⟨_, hg', _, h⟩ | ⟨_, hg', _, _, h⟩ | ⟨_, hg', _, _, _, h⟩ | ⟨_, hg', _, _, _, h⟩
    · rw [hxr] at hi; cases hi
    · rw [hl] at hl'; cases hl'; omega
    · rw [hl] at hl'; cases hl'
      have hok := HOK (by rw [h])
      have e1 : behindA a k x = ⟨a.n, a.got, a.held.set k (l ++ [x])⟩ := by
        unfold behindA
        rw [hg, hl]
        have : a.got.set k true = a.got := by
          apply List.ext_getElem?
          intro i
          by_cases e : k = i
          · subst e; rw [List.getElem?_set_self hkg, hg]
          · rw [List.getElem?_set_ne e]
        rw [this]; simp
      have ea : o.a = behindA a k x := by rw [h]
      refine .held (by rw [h]) ?_
      rw [ea] at hok ⊢
      rw [e1] at hok ⊢
      refine ⟨hok, H.ng, H.num, H.lp, by rw [List.length_set]; exact H.lq, H.lr, fun i g2 p2 h2 q2 r2 a1 a2 a3 a4 a5 => ?_⟩
      simp only at a1 a3
      rcases set_at a3 with ⟨e, e2⟩ | ⟨e, a3⟩
      · subst e e2
        rw [hg] at a1; cases a1
        rw [hp] at a2; cases a2
        rw [hr] at a5; cases a5
        rcases set_at a4 with ⟨_, e3⟩ | ⟨e3, _⟩
        · subst e3
          refine ⟨O.nb, fun e => (by cases e), ⟨done, [], c, ?_, hcut, hdl, hnum, hrt, hlen⟩, O.len⟩
          simp only [if_true]
          exact ⟨b, hb, by rw [hc]; simp⟩
        · exact absurd rfl e3
      · rcases set_at a4 with ⟨e3, _⟩ | ⟨_, a4⟩
        · exact absurd e3 e
        · exact H.each i g2 p2 h2 q2 r2 a1 a2 a3 a4 a5
    · rw [hg] at hg'; cases hg'
    · rw [hg] at hg'; cases hg'
    · rw [hg] at hg'; cases hg'
    · rw [hg] at hg'; cases hg'
  | false =>
    have hl0 := O.hh rfl
    subst hl0
    simp only [Bool.false_eq_true, if_false] at hc
    rcases HW with ⟨hi, h⟩ | ⟨l', hg', hl', hn, h⟩ | ⟨l', hi, hg', hl', hn, h⟩ | ⟨_, _, hk4, h⟩ | ⟨_, _, hk4, hn, h⟩ | ⟨_, _, hk4, hn, hb, h⟩ | ⟨_, _, hk4, hn, hb, h⟩
    · rw [hxr] at hi; cases hi
    · rw [hg] at hg'; cases hg'
    · rw [hg] at hg'; cases hg'
    · have hok := HOK (by rw [h])
      have ea : o.a = a := by rw [h]
      refine .passes p hp (by rw [h]) ?_
      rw [ea]
      refine ⟨H.ok, H.ng, H.num, by rw [List.length_set]; exact H.lp, by rw [List.length_set]; exact H.lq, H.lr, fun i g2 p2 h2 q2 r2 a1 a2 a3 a4 a5 => ?_⟩
      rcases set_at a2 with ⟨e, e2⟩ | ⟨e, a2⟩
      · subst e e2
        rw [hg] at a1; cases a1
        rw [hl] at a3; cases a3
        rw [hr] at a5; cases a5
        rcases set_at a4 with ⟨_, e3⟩ | ⟨e3, _⟩
        · subst e3
          refine ⟨fun y hy => ?_, fun _ => rfl, ⟨done, [], c, ?_, hcut, hdl, hnum, hrt, hlen⟩, O.len⟩
          · rcases List.mem_append.1 hy with hy | hy
            · exact O.nb y hy
            · rw [List.mem_singleton.1 hy]; exact hk4
          · simp only [Bool.false_eq_true, if_false]
            rw [hc]; simp
        · exact absurd rfl e3
      · rcases set_at a4 with ⟨e3, _⟩ | ⟨_, a4⟩
        · exact absurd e3 e
        · exact H.each i g2 p2 h2 q2 r2 a1 a2 a3 a4 a5
    · exfalso
      have hxn : x.n = ((cut + 1 : Nat) : Int) := by
        rw [hc, numb_app p cut _ O.nb, numb, if_pos hk4] at hnum
        exact hnum.1
      rcases H.num with h0 | h0
      · exact hn.1 h0
      · exact hn.2 (by rw [h0, hxn])
    · have hxn : x.n = ((cut + 1 : Nat) : Int) := by
        rw [hc, numb_app p cut _ O.nb, numb, if_pos hk4] at hnum
        exact hnum.1
      have hok := HOK (by rw [h])
      have ea : o.a = behindA a k x := by rw [h]
      have e1 : behindA a k x = ⟨x.n, a.got.set k true, a.held⟩ := by unfold behindA; rw [hg]; simp
      refine .held (by rw [h]) ?_
      rw [ea] at hok ⊢
      rw [e1] at hok ⊢
      refine ⟨hok, by simp only [List.length_set]; exact H.ng, .inr hxn, H.lp, by rw [List.length_set]; exact H.lq, H.lr, fun i g2 p2 h2 q2 r2 a1 a2 a3 a4 a5 => ?_⟩
      simp only at a1 a3
      rcases set_at a1 with ⟨e, e2⟩ | ⟨e, a1⟩
      · subst e e2
        rw [hp] at a2; cases a2
        rw [hl] at a3; cases a3
        rw [hr] at a5; cases a5
        rcases set_at a4 with ⟨_, e3⟩ | ⟨e3, _⟩
        · subst e3
          refine ⟨O.nb, fun e => (by cases e), ⟨done, [], c, ?_, hcut, hdl, hnum, hrt, hlen⟩, O.len⟩
          simp only [if_true]
          exact ⟨x, hk4, by rw [hc]; simp⟩
        · exact absurd rfl e3
      · rcases set_at a4 with ⟨e3, _⟩ | ⟨_, a4⟩
        · exact absurd e3 e
        · exact H.each i g2 p2 h2 q2 r2 a1 a2 a3 a4 a5
    · have hxn : x.n = ((cut + 1 : Nat) : Int) := by
        rw [hc, numb_app p cut _ O.nb, numb, if_pos hk4] at hnum
        exact hnum.1
      have hall : ∀ i, i < n → i ≠ k → a.got[i]? = some true := fun i hi hne => by
        have h1 : (a.got.set k true)[i]? = some ((a.got.set k true)[i]'(by rw [List.length_set, H.ng]; exact hi)) := List.getElem?_eq_getElem _
        have h2 := List.all_eq_true.1 hb _ (List.mem_of_getElem? (show (behindA a k x).got[i]? = _ from h1))
        rw [List.getElem?_set_ne (Ne.symm hne)] at h1
        rw [h1]
        simpa using h2
      -- what each input's row is from here on
      have fact : ∀ (i : Nat) (g2 : Bool) (p2 h2 q2 r2 : List It), a.got[i]? = some g2 → passed[i]? = some p2 → a.held[i]? = some h2 → (pend.set k q)[i]? = some q2 → rows[i]? = some r2 →
          nobar p2 ∧ ∃ (done : List (List It)) (b : It), b.k = 4 ∧ cutsR r2 = done ++ (p2 :: cutsR (h2 ++ q2)) ∧ done.length = cut ∧ numb (cut + 1) (h2 ++ q2) ∧ (∀ y ∈ h2 ++ q2, right y = true) ∧ (h2 ++ q2).length ≤ 14 ∧ (cutsR r2).length = B + 1 := by
        intro i g2 p2 h2 q2 r2 a1 a2 a3 a4 a5
        by_cases e : i = k
        · subst e
          rw [hp] at a2; cases a2
          rw [hl] at a3; cases a3
          rw [hr] at a5; cases a5
          rcases set_at a4 with ⟨_, e3⟩ | ⟨e3, _⟩
          · subst e3
            refine ⟨O.nb, done, x, hk4, ?_, hdl, ?_, fun y hy => hrt y (by rw [hc]; simp at hy ⊢; exact .inr (.inr hy)), ?_, O.len⟩
            · rw [hcut, hc, cuts_app p x _ O.nb hk4]; simp
            · rw [hc, numb_app p cut _ O.nb, numb, if_pos hk4] at hnum
              simpa using hnum.2
            · rw [hc] at hlen; simp at hlen ⊢; omega
          · exact absurd rfl e3
        · rcases set_at a4 with ⟨e3, _⟩ | ⟨_, a4⟩
          · exact absurd e3 e
          · have hin : i < n := by rw [← H.lp]; exact (List.getElem?_eq_some_iff.1 a2).1
            have hg2 := hall i hin e
            rw [hg2] at a1
            cases a1
            have O2 := H.each i true p2 h2 q2 r2 hg2 a2 a3 a4 a5
            obtain ⟨done2, _, c2, hc2, hcut2, hdl2, hnum2, hrt2, hlen2⟩ := O2.run
            simp only [if_true] at hc2
            obtain ⟨b2, hb2, hc2⟩ := hc2
            refine ⟨O2.nb, done2, b2, hb2, by rw [hcut2, hc2, cuts_app p2 b2 _ O2.nb hb2], hdl2, ?_, fun y hy => hrt2 y (by rw [hc2]; simp only [List.mem_append, List.mem_cons] at hy ⊢; exact .inr (.inr hy)), ?_, O2.len⟩
            · rw [hc2, numb_app p2 cut _ O2.nb, numb, if_pos hb2] at hnum2
              exact hnum2.2
            · rw [hc2] at hlen2; simp only [List.length_append, List.length_cons] at hlen2 ⊢; omega
      obtain ⟨_, dk, bk, _, hck, hdk, _, _, _, hlk⟩ := fact k false p [] q r hg hp hl (by rw [List.getElem?_set_self (by rw [H.lq]; exact hk)]) hr
      refine .whole (by rw [h, H.ng, hxn]) ?_ (fun i p2 r2 a2 a5 => ?_) fun pend' hl' hp' => ?_
      · have e := congrArg List.length hck
        rw [hlk, List.length_append, List.length_cons] at e
        have hne : 0 < (cutsR ([] ++ q)).length := List.length_pos_iff.2 (cuts_ne _)
        omega
      · have hin : i < n := by rw [← H.lp]; exact (List.getElem?_eq_some_iff.1 a2).1
        obtain ⟨g2, p3, h2, q2, r3, b1, b2, b3, b4, b5, _⟩ := H.at_ hin
        obtain ⟨q4, hq4⟩ : ∃ q4, (pend.set k q)[i]? = some q4 := ⟨_, List.getElem?_eq_getElem (by rw [List.length_set, H.lq]; exact hin)⟩
        obtain ⟨_, d2, _, _, hc2, hd2, _⟩ := fact i g2 p2 h2 q4 r2 b1 a2 b3 hq4 a5
        rw [hc2, List.getElem?_append_right (by omega), hd2, Nat.sub_self]
        rfl
      · have h1 := H.ok.len
        rw [H.ng] at h1
        refine ⟨ok_anew h1.1 h1.2, List.length_replicate, .inl rfl, List.length_replicate, hl', H.lr, fun i g2 p2 h2 q2 r2 a1 a2 a3 a4 a5 => ?_⟩
        have m1 := List.mem_of_getElem? a1
        have m2 := List.mem_of_getElem? a2
        have m3 := List.mem_of_getElem? a3
        simp only [anew, List.mem_replicate] at m1 m2 m3
        rw [m1.2, m2.2, m3.2]
        have hin : i < n := by rw [← H.lr]; exact (List.getElem?_eq_some_iff.1 a5).1
        obtain ⟨g3, p3, l3, q3, r3, b1, b2, b3, b4, b5, _⟩ := H.at_ hin
        obtain ⟨q4, hq4⟩ : ∃ q4, (pend.set k q)[i]? = some q4 := ⟨_, List.getElem?_eq_getElem (by rw [List.length_set, H.lq]; exact hin)⟩
        obtain ⟨_, d2, _, _, hc2, hd2, hn2, hr2, hl2, hle2⟩ := fact i g3 p3 l3 q4 r2 b1 b2 b3 hq4 a5
        have e := hp' i l3 q4 q2 b3 hq4 a4
        subst e
        refine ⟨fun y hy => (by cases hy), fun _ => rfl, ⟨d2 ++ [p3], [], l3 ++ q4, by simp, by rw [hc2]; simp, by rw [List.length_append, hd2]; rfl, hn2, hr2, hl2⟩, hle2⟩
-- what waited is offered again; the rows; the beginning and the end
def ofI (i : Nat) (l : List Lt) : List It := (l.filter fun y => decide (y.1 = (i : Int))).map fun y => y.2
def pendL (late : List Lt) (base : List (List It)) : List (List It) := base.mapIdx fun i q => ofI i late ++ q
theorem pendL_at (late : List Lt) (base : List (List It)) (i : Nat) : (pendL late base)[i]? = (base[i]?).map fun q => ofI i late ++ q := by
  unfold pendL
  rw [List.getElem?_mapIdx]
theorem pendL_len (late : List Lt) (base : List (List It)) : (pendL late base).length = base.length := by
  unfold pendL
  exact List.length_mapIdx
theorem pendL_nil (base : List (List It)) : pendL [] base = base := by
  apply List.ext_getElem?
  intro i
  rw [pendL_at]
  cases base[i]? <;> simp [ofI]
theorem ofI_other {j : Nat} {l : List It} {i : Nat} (h : i ≠ j) : ofI i (l.map fun x => ((j : Int), x)) = [] := by
  unfold ofI
  rw [List.filter_eq_nil_iff.2]
  · rfl
  · intro y hy
    obtain ⟨x, _, rfl⟩ := List.mem_map.1 hy
    simp only [decide_eq_true_eq]
    omega
theorem ofI_same {j : Nat} {l : List It} : ofI j (l.map fun x => ((j : Int), x)) = l := by
  unfold ofI
  rw [List.filter_eq_self.2]
  · rw [List.map_map]; exact List.map_id' l
  · intro y hy
    obtain ⟨x, _, rfl⟩ := List.mem_map.1 hy
    simp
theorem ofI_app (i : Nat) (a b : List Lt) : ofI i (a ++ b) = ofI i a ++ ofI i b := by
  unfold ofI
  rw [List.filter_append, List.map_append]
theorem ofI_late : ∀ (l : List (List It)) (k i : Nat), ofI (k + i) (lateOf k l) = (l[i]?).getD []
  | [], k, i => by simp [lateOf, ofI]
  | a :: r, k, 0 => by
    rw [lateOf, ofI_app, Nat.add_zero, ofI_same]
    have : ofI k (lateOf (k + 1) r) = [] := by
      clear a
      induction r generalizing k with
      | nil => rfl
      | cons b r ih =>
        rw [lateOf, ofI_app, ofI_other (by omega), List.nil_append]
        have : ∀ (r : List (List It)) (j : Nat), k < j → ofI k (lateOf j r) = [] := by
          intro r
          induction r with
          | nil => intro j _; rfl
          | cons b r ih2 =>
            intro j hj
            rw [lateOf, ofI_app, ofI_other (by omega), List.nil_append]
            exact ih2 (j + 1) (by omega)
        exact this r (k + 1 + 1) (by omega)
    rw [this]
    simp
  | a :: r, k, i + 1 => by
    rw [lateOf, ofI_app, ofI_other (by omega), List.nil_append, show k + (i + 1) = k + 1 + i by omega, ofI_late r (k + 1) i]
    rw [List.getElem?_cons_succ]
theorem late_mem : ∀ (l : List (List It)) (k : Nat) (y : Lt), y ∈ lateOf k l → ∃ i : Nat, y.1 = ((k + i : Nat) : Int) ∧ i < l.length
  | [], k, y, h => by cases h
  | a :: r, k, y, h => by
    rw [lateOf] at h
    rcases List.mem_append.1 h with h | h
    · obtain ⟨x, _, rfl⟩ := List.mem_map.1 h
      exact ⟨0, by simp, by simp⟩
    · obtain ⟨i, h1, h2⟩ := late_mem r (k + 1) y h
      exact ⟨i + 1, by rw [h1]; congr 1; omega, by simp; omega⟩
/-- The next of those that waited. -/
theorem pendL_step {late : List Lt} {base : List (List It)} {i : Nat} {y : It} (hi : i < base.length) : ∃ q, (pendL (((i : Int), y) :: late) base)[i]? = some (y :: q) ∧ (pendL (((i : Int), y) :: late) base).set i q = pendL late base := by
  have e0 : ∀ j, ofI j (((i : Int), y) :: late) = if j = i then y :: ofI j late else ofI j late := by
    intro j
    unfold ofI
    rw [List.filter_cons]
    by_cases h : j = i
    · subst h; simp
    · rw [if_neg (by simp; omega), if_neg h]
  refine ⟨ofI i late ++ base[i], ?_, ?_⟩
  · rw [pendL_at, List.getElem?_eq_getElem hi, e0, if_pos rfl]; rfl
  · apply List.ext_getElem?
    intro j
    by_cases h : i = j
    · subst h
      rw [List.getElem?_set_self (by rw [pendL_len]; exact hi), pendL_at, List.getElem?_eq_getElem hi]; rfl
    · rw [List.getElem?_set_ne h, pendL_at, pendL_at, e0, if_neg (Ne.symm h)]
/-- What is to be offered behind a cut. -/
theorem pendL_whole {B n : Nat} {rows : List (List It)} {a : Al} {passed : List (List It)} {cut : Nat} {pend : List (List It)} (H : Inv B n rows a passed cut pend) (base : List (List It)) (hb : base.length = n) :
    (pendL (lateOf 0 a.held) base).length = n ∧ ∀ (i : Nat) (l q' q2 : List It), a.held[i]? = some l → base[i]? = some q' → (pendL (lateOf 0 a.held) base)[i]? = some q2 → q2 = l ++ q' := by
  refine ⟨by rw [pendL_len]; exact hb, fun i l q' q2 h1 h2 h3 => ?_⟩
  rw [pendL_at, h2] at h3
  simp only [Option.map_some, Option.some.injEq] at h3
  have := ofI_late a.held 0 i
  rw [Nat.zero_add, h1] at this
  rw [← h3, this]
  rfl
theorem late_in {B n : Nat} {rows : List (List It)} {a : Al} {passed : List (List It)} {cut : Nat} {pend : List (List It)} (H : Inv B n rows a passed cut pend) {y : Lt} (h : y ∈ lateOf 0 a.held) : ∃ i : Nat, y.1 = (i : Int) ∧ i < n := by
  obtain ⟨i, h1, h2⟩ := late_mem _ _ _ h
  exact ⟨i, by rw [h1]; congr 1; omega, by rw [← H.ng, ← H.ok.hl]; exact h2⟩
/-- A row as the law makes it, so far. -/
structure RowOk (m : Nat) (l : List It) : Prop where
  num : numb 0 l
  len : (cutsR l).length = m + 1
  right : ∀ x ∈ l, right x = true
theorem numb_snoc : ∀ (p : List It) (c : Nat) (x : It), numb c p → x.k = 4 → x.n = ((c + (cutsR p).length : Nat) : Int) → numb c (p ++ [x])
  | [], c, x, _, hk, hn => by
    show numb c [x]
    rw [numb, if_pos hk]
    exact ⟨hn, trivial⟩
  | y :: p, c, x, h, hk, hn => by
    rw [List.cons_append, numb]
    rw [numb] at h
    by_cases hy : y.k = 4
    · rw [if_pos hy] at h ⊢
      refine ⟨h.1, numb_snoc p (c + 1) x h.2 hk ?_⟩
      rw [hn, cutsR, if_pos hy, List.length_cons]
      congr 1; omega
    · rw [if_neg hy] at h ⊢
      refine numb_snoc p c x h hk ?_
      rw [hn, cutsR, if_neg hy]
      cases e : cutsR p with
      | nil => exact absurd e (cuts_ne p)
      | cons s t => rfl
theorem numb_snoc_not : ∀ (p : List It) (c : Nat) (x : It), numb c p → x.k ≠ 4 → numb c (p ++ [x])
  | [], c, x, _, hk => by
    show numb c [x]
    rw [numb, if_neg hk]
    trivial
  | y :: p, c, x, h, hk => by
    rw [List.cons_append, numb]
    rw [numb] at h
    by_cases hy : y.k = 4
    · rw [if_pos hy] at h ⊢; exact ⟨h.1, numb_snoc_not p (c + 1) x h.2 hk⟩
    · rw [if_neg hy] at h ⊢; exact numb_snoc_not p c x h hk
theorem RowOk.nil : RowOk 0 [] := ⟨trivial, rfl, fun x hx => by cases hx⟩
theorem RowOk.bar {m : Nat} {l : List It} (h : RowOk m l) {x : It} (hk : x.k = 4) (hn : x.n = ((m + 1 : Nat) : Int)) (hr : Itm.right x = true) : RowOk (m + 1) (l ++ [x]) :=
  ⟨numb_snoc l 0 x h.num hk (by rw [hn, h.len, Nat.zero_add]), by rw [cuts_snoc_bar l x hk, List.length_append, h.len]; rfl, fun y hy => by
    rcases List.mem_append.1 hy with hy | hy
    · exact h.right y hy
    · rw [List.mem_singleton.1 hy]; exact hr⟩
theorem RowOk.mark {m : Nat} {l : List It} (h : RowOk m l) {x : It} (hk : x.k ≠ 4) (hr : Itm.right x = true) : RowOk m (l ++ [x]) := by
  refine ⟨numb_snoc_not l 0 x h.num hk, ?_, fun y hy => ?_⟩
  · obtain ⟨t, s, h1, h2⟩ := cuts_snoc l x hk
    have h3 := h.len
    rw [h1, List.length_append] at h3
    rw [h2, List.length_append]
    exact h3
  · rcases List.mem_append.1 hy with hy | hy
    · exact h.right y hy
    · rw [List.mem_singleton.1 hy]; exact hr
/-- The beginning. -/
theorem inv_start {B n : Nat} (h1 : 1 ≤ n) (h2 : n ≤ 8) {rows : List (List It)} (hl : rows.length = n) (hr : ∀ r ∈ rows, RowOk B r ∧ r.length ≤ 14) : Inv B n rows (anew n) (List.replicate n []) 0 rows := by
  refine ⟨ok_anew h1 h2, List.length_replicate, .inl rfl, List.length_replicate, hl, hl, fun i g p h q r a1 a2 a3 a4 a5 => ?_⟩
  have m1 := List.mem_of_getElem? a1
  have m2 := List.mem_of_getElem? a2
  have m3 := List.mem_of_getElem? a3
  simp only [anew, List.mem_replicate] at m1 m2 m3
  rw [m1.2, m2.2, m3.2]
  rw [a4] at a5
  cases a5
  have hq := hr q (List.mem_of_getElem? a4)
  exact ⟨fun y hy => (by cases hy), fun _ => rfl, ⟨[], [], q, by simp, rfl, rfl, hq.1.num, hq.1.right, hq.2⟩, hq.1.len⟩
/-- The end. -/
theorem inv_end {B n : Nat} {rows : List (List It)} {a : Al} {passed : List (List It)} {cut : Nat} {pend : List (List It)} (H : Inv B n rows a passed cut pend) (hp : ∀ q ∈ pend, q = []) :
    cut = B ∧ ∀ (i : Nat) (p r : List It), passed[i]? = some p → rows[i]? = some r → (cutsR r)[B]? = some p := by
  have key : ∀ i, i < n → ∃ (g : Bool) (p r : List It), a.got[i]? = some g ∧ passed[i]? = some p ∧ rows[i]? = some r ∧ (g = true → cut + 1 ≤ B) ∧ (g = false → cut = B ∧ (cutsR r)[B]? = some p) := by
    intro i hi
    obtain ⟨g, p, l, q, r, b1, b2, b3, b4, b5, O⟩ := H.at_ hi
    have hq := hp q (List.mem_of_getElem? b4)
    subst hq
    obtain ⟨done, _, c, hc, hcut, hdl, _⟩ := O.run
    refine ⟨g, p, r, b1, b2, b5, fun e => ?_, fun e => ?_⟩
    · subst e
      simp only [if_true] at hc
      obtain ⟨b, hb, hc⟩ := hc
      rw [hc, cuts_app p b _ O.nb hb] at hcut
      have h1 := congrArg List.length hcut
      rw [O.len, List.length_append, List.length_cons] at h1
      have h2 : 0 < (cutsR (l ++ [])).length := List.length_pos_iff.2 (cuts_ne _)
      omega
    · subst e
      simp only [Bool.false_eq_true, if_false, List.append_nil] at hc
      rw [hc, cuts_nobar p O.nb] at hcut
      have h1 := congrArg List.length hcut
      rw [O.len, List.length_append] at h1
      simp only [List.length_cons, List.length_nil] at h1
      have h2 : cut = B := by omega
      refine ⟨h2, ?_⟩
      rw [hcut, ← h2, ← hdl, List.getElem?_append_right (Nat.le_refl _), Nat.sub_self]
      rfl
  have hn := H.ok.len
  rw [H.ng] at hn
  have hex : ∃ i, i < n ∧ a.got[i]? = some false := by
    rcases end_iff.1 H.ok.fin with ⟨_, h0⟩ | ⟨_, _, h0⟩
    · obtain ⟨g, hg⟩ : ∃ g, a.got[0]? = some g := ⟨_, List.getElem?_eq_getElem (by rw [H.ng]; omega)⟩
      refine ⟨0, by omega, ?_⟩
      cases g
      · exact hg
      · exfalso
        unfold trues at h0
        rw [List.count_eq_zero] at h0
        exact h0 (List.mem_of_getElem? hg)
    · have : ¬ ∀ x ∈ a.got, true = x := fun hx => by
        have := List.count_eq_length.2 hx
        unfold trues at h0
        omega
      have h1 : false ∈ a.got := by
        cases hm : decide (false ∈ a.got) with
        | true => exact of_decide_eq_true hm
        | false =>
          exfalso
          apply this
          intro x hx
          cases x
          · exact absurd hx (of_decide_eq_false hm)
          · rfl
      obtain ⟨i, hi⟩ := List.getElem?_of_mem h1
      exact ⟨i, by rw [← H.ng]; exact (List.getElem?_eq_some_iff.1 hi).1, hi⟩
  obtain ⟨i0, hi0, hg0⟩ := hex
  obtain ⟨g, p, r, b1, b2, b5, _, hf⟩ := key i0 hi0
  rw [hg0] at b1
  cases b1
  have hcB := (hf rfl).1
  refine ⟨hcB, fun i p2 r2 a2 a5 => ?_⟩
  have hi : i < n := by rw [← H.lp]; exact (List.getElem?_eq_some_iff.1 a2).1
  obtain ⟨g3, p3, r3, c1, c2, c5, ht, hf3⟩ := key i hi
  rw [a2] at c2
  rw [a5] at c5
  cases c2
  cases c5
  cases g3
  · exact (hf3 rfl).2
  · have := ht rfl
    omega
/-- Items that the law makes are right. -/
theorem right_barIt {m : Int} (h1 : 1 ≤ m) (h2 : m ≤ 1073741824) : right (⟨4, ⟨#[]⟩, 0, 0, 0, m, 0, 0, ⟨#[]⟩, 0, 0⟩ : It) = true := by
  unfold right
  rw [if_neg (by simp), if_neg (by simp), if_neg (by simp), if_pos rfl]
  simp [wn, eqI, eqE, eqR, eqS, h1, h2]
theorem right_markIt {m : Int} (h1 : 0 ≤ m) (h2 : m ≤ 1099511627776) : right (⟨2, ⟨#[]⟩, 0, 0, m, 0, 0, 0, ⟨#[]⟩, 0, 0⟩ : It) = true := by
  unfold right
  rw [if_neg (by simp), if_pos rfl]
  simp [wn, eqI, eqE, eqR, eqS, h1, h2]
end Aln
end Go.Proofs.Ytgbklmncfajcgaa
