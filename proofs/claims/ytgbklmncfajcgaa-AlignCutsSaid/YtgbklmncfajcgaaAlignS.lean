/- Aligners in memory, in short; the reference's calls over them; the law's small. -/
import Derived.Test.YtgbklmncfajcgaaAlignO
import Derived.Test.YtgbklmncfajcgaaAlignP
namespace Go.Proofs.Ytgbklmncfajcgaa
open Go.ChangeShapes Go.WideShapes Go.ChangeAt Go.RowKit
set_option linter.unusedVariables false
set_option maxRecDepth 8000
namespace Aln
open Gen (TellsB TellsI row_one flat_len flat_get)
open Itm
/-- An aligner in memory. -/
structure RawAt (w : World) (a : Al) (ng nh : Nat) (G : Option Addr) (cG : Nat) (H : Option Addr) (cH : Nat) (hs : List Hd) : Prop where
  lng : ng = a.got.length
  lnh : nh = a.held.length
  hg : Row w G (gcs a.got)
  hh : HAt w H hs
  map : hs.map (fun x => x.2.2) = a.held
  cg : ng ≤ cG
  ch : nh ≤ cH
  cap : ∀ x ∈ hs, x.2.2.length ≤ x.2.1
structure Small (ng nh : Nat) (hs : List Hd) : Prop where
  g : ng ≤ 20
  h : nh ≤ 20
  each : ∀ x ∈ hs, x.2.2.length ≤ 100
/-- A row avoids the blocks of M. -/
def OffR (M : Nat → Prop) (A : Option Addr) (cs : List Value) : Prop := cs = [] ∨ ∀ x, A = some x → ¬ M x.block
theorem OffR.old {M : Nat → Prop} {w : World} {A : Option Addr} {cs : List Value} (h : Row w A cs) (hM : ∀ k, M k → w.heap.size ≤ k) : OffR M A cs := by
  rcases h with h | ⟨b, off, rfl, h⟩
  · exact .inl h
  · cases cs with
    | nil => exact .inl rfl
    | cons v r =>
      right
      intro x hx hm
      cases hx
      have h1 := lt_of_cell (h 0 v rfl)
      have h2 := hM _ hm
      simp only at h1 h2
      omega
theorem OffR.row {M : Nat → Prop} {w w' : World} {A : Option Addr} {cs : List Value} (h : OffR M A cs) (hm : Gen.Mine M w w') (hr : Row w A cs) : Row w' A cs := by
  rcases h with h | h
  · exact .inl h
  · exact hm.row hr h
theorem OffR.own {M : Nat → Prop} {w : World} {B size n c : Nat} {e : TypeId} {A : Option Addr} {xs : List Value} (h : w.ownsRow B e size (.slice A n c) n xs) (hM : ∀ k, M k → k < B) : OffR M A xs := by
  obtain ⟨hl, ⟨h0, h1⟩ | ⟨g, cap, cur, hv, hg, _⟩⟩ := h
  · subst h1
    rw [Nat.zero_mul] at hl
    exact .inl (List.eq_nil_of_length_eq_zero hl)
  · cases hv
    right
    intro x hx hm
    cases hx
    have := hM _ hm
    simp only at this
    omega
structure OffA (M : Nat → Prop) (a : Al) (G H : Option Addr) (hs : List Hd) : Prop where
  g : OffR M G (gcs a.got)
  h : OffR M H (hsc hs)
  e : ∀ x ∈ hs, OffR M x.1 (itc x.2.2)
def AlM (M : Nat → Prop) (w : World) (a : Al) (ng nh : Nat) (G : Option Addr) (cG : Nat) (H : Option Addr) (cH : Nat) : Prop := ∃ hs, RawAt w a ng nh G cG H cH hs ∧ Small ng nh hs ∧ OffA M a G H hs
def AlAt (w : World) (a : Al) (ng nh : Nat) (G : Option Addr) (cG : Nat) (H : Option Addr) (cH : Nat) : Prop := ∃ hs, RawAt w a ng nh G cG H cH hs ∧ Small ng nh hs
theorem AlM.at_ {M : Nat → Prop} {w : World} {a : Al} {ng nh : Nat} {G : Option Addr} {cG : Nat} {H : Option Addr} {cH : Nat} (h : AlM M w a ng nh G cG H cH) : AlAt w a ng nh G cG H cH := by
  obtain ⟨hs, h1, h2, _⟩ := h
  exact ⟨hs, h1, h2⟩
theorem AlAt.mk_ {w : World} {a : Al} {ng nh : Nat} {G : Option Addr} {cG : Nat} {H : Option Addr} {cH : Nat} (h : AlAt w a ng nh G cG H cH) (M : Nat → Prop) (hM : ∀ k, M k → w.heap.size ≤ k) : AlM M w a ng nh G cG H cH := by
  obtain ⟨hs, h1, h2⟩ := h
  exact ⟨hs, h1, h2, ⟨.old h1.hg hM, .old h1.hh.row hM, fun x hx => .old (h1.hh.each x hx) hM⟩⟩
theorem RawAt.mine {M : Nat → Prop} {w w' : World} {a : Al} {ng nh : Nat} {G : Option Addr} {cG : Nat} {H : Option Addr} {cH : Nat} {hs : List Hd} (h : RawAt w a ng nh G cG H cH hs) (ho : OffA M a G H hs) (hm : Gen.Mine M w w') : RawAt w' a ng nh G cG H cH hs :=
  ⟨h.lng, h.lnh, ho.g.row hm h.hg, ⟨ho.h.row hm h.hh.row, fun x hx => (ho.e x hx).row hm (h.hh.each x hx)⟩, h.map, h.cg, h.ch, h.cap⟩
theorem AlM.mine {M : Nat → Prop} {w w' : World} {a : Al} {ng nh : Nat} {G : Option Addr} {cG : Nat} {H : Option Addr} {cH : Nat} (h : AlM M w a ng nh G cG H cH) (hm : Gen.Mine M w w') : AlM M w' a ng nh G cG H cH := by
  obtain ⟨hs, h1, h2, h3⟩ := h
  exact ⟨hs, h1.mine h3 hm, h2, h3⟩
theorem RawAt.below {w w' : World} {a : Al} {ng nh : Nat} {G : Option Addr} {cG : Nat} {H : Option Addr} {cH : Nat} {hs : List Hd} (h : RawAt w a ng nh G cG H cH hs) (hb : Below w.heap.size w w') : RawAt w' a ng nh G cG H cH hs :=
  ⟨h.lng, h.lnh, h.hg.below hb, h.hh.below hb, h.map, h.cg, h.ch, h.cap⟩
theorem AlAt.below {w w' : World} {a : Al} {ng nh : Nat} {G : Option Addr} {cG : Nat} {H : Option Addr} {cH : Nat} (h : AlAt w a ng nh G cG H cH) (hb : Below w.heap.size w w') : AlAt w' a ng nh G cG H cH := by
  obtain ⟨hs, h1, h2⟩ := h
  exact ⟨hs, h1.below hb, h2⟩
theorem AlAt.len {w : World} {a : Al} {ng nh : Nat} {G : Option Addr} {cG : Nat} {H : Option Addr} {cH : Nat} (h : AlAt w a ng nh G cG H cH) : ng = a.got.length ∧ nh = a.held.length := by
  obtain ⟨hs, h1, h2⟩ := h
  exact ⟨h1.lng, h1.lnh⟩
theorem AlM.below {M : Nat → Prop} {w w' : World} {a : Al} {ng nh : Nat} {G : Option Addr} {cG : Nat} {H : Option Addr} {cH : Nat} (h : AlM M w a ng nh G cG H cH) (hb : Below w.heap.size w w') : AlM M w' a ng nh G cG H cH := by
  obtain ⟨hs, h1, h2, h3⟩ := h
  exact ⟨hs, h1.below hb, h2, h3⟩
/-- What waited, in memory. -/
structure LtAt (w : World) (l : List Lt) (n : Nat) (L : Option Addr) (c : Nat) : Prop where
  ln : n = l.length
  row : Row w L (ltc l)
  cp : n ≤ c
theorem LtAt.below {w w' : World} {l : List Lt} {n : Nat} {L : Option Addr} {c : Nat} (h : LtAt w l n L c) (hb : Below w.heap.size w w') : LtAt w' l n L c := ⟨h.ln, h.row.below hb, h.cp⟩
/-- .. it avoids the blocks of M. -/
def LtM (M : Nat → Prop) (w : World) (l : List Lt) (n : Nat) (L : Option Addr) (c : Nat) : Prop := LtAt w l n L c ∧ OffR M L (ltc l)
theorem LtM.mine {M : Nat → Prop} {w w' : World} {l : List Lt} {n : Nat} {L : Option Addr} {c : Nat} (h : LtM M w l n L c) (hm : Gen.Mine M w w') : LtM M w' l n L c := ⟨⟨h.1.ln, h.2.row hm h.1.row, h.1.cp⟩, h.2⟩
theorem LtM.below {M : Nat → Prop} {w w' : World} {l : List Lt} {n : Nat} {L : Option Addr} {c : Nat} (h : LtM M w l n L c) (hb : Below w.heap.size w w') : LtM M w' l n L c := ⟨h.1.below hb, h.2⟩
def GivesNwM (M : Nat → Prop) (o : Al) (z : Int) (w : World) (e : Ending) (w' : World) : Prop :=
  ∃ (ng : Nat) (G : Option Addr) (cG : Nat) (H : Option Addr) (cH : Nat), e = .returned (.tuple #[alV o.n G ng cG H ng cH, .int .i64 z]) ∧ AlM M w' o ng ng G cG H cH ∧ Below w.heap.size w w'
def GivesOfM (M : Nat → Prop) (o : An) (w : World) (e : Ending) (w' : World) : Prop :=
  ∃ (ng nl : Nat) (G : Option Addr) (cG : Nat) (H : Option Addr) (cH : Nat) (L : Option Addr) (cL : Nat), e = .returned (.tuple #[alV o.a.n G ng cG H ng cH, .bool o.pass, .int .i64 o.done, .slice L nl cL, .int .i64 o.e]) ∧ AlM M w' o.a ng ng G cG H cH ∧ LtM M w' o.late nl L cL ∧ Below w.heap.size w w'
/-- An aligner, an error. -/
def GivesNw (o : Al) (z : Int) (w : World) (e : Ending) (w' : World) : Prop :=
  ∃ (ng : Nat) (G : Option Addr) (cG : Nat) (H : Option Addr) (cH : Nat), e = .returned (.tuple #[alV o.n G ng cG H ng cH, .int .i64 z]) ∧ AlAt w' o ng ng G cG H cH ∧ Below w.heap.size w w'
/-- What an offer is answered by: five results. -/
def GivesOf (o : An) (w : World) (e : Ending) (w' : World) : Prop :=
  ∃ (ng nl : Nat) (G : Option Addr) (cG : Nat) (H : Option Addr) (cH : Nat) (L : Option Addr) (cL : Nat), e = .returned (.tuple #[alV o.a.n G ng cG H ng cH, .bool o.pass, .int .i64 o.done, .slice L nl cL, .int .i64 o.e]) ∧ AlAt w' o.a ng ng G cG H cH ∧ LtAt w' o.late nl L cL ∧ Below w.heap.size w w'
/-- .. as a struct. -/
def GivesAnS (o : An) (w : World) (e : Ending) (w' : World) : Prop :=
  ∃ (ng nl : Nat) (G : Option Addr) (cG : Nat) (H : Option Addr) (cH : Nat) (L : Option Addr) (cL : Nat), e = .returned (.agg (anC o.a.n G ng cG H ng cH o.pass o.done L nl cL o.e)) ∧ AlAt w' o.a ng ng G cG H cH ∧ LtAt w' o.late nl L cL ∧ Below w.heap.size w w'
theorem GivesNwM.at_ {M : Nat → Prop} {o : Al} {z : Int} {w : World} {e : Ending} {w' : World} (h : GivesNwM M o z w e w') : GivesNw o z w e w' := by
  obtain ⟨ng, G, cG, H, cH, h1, h2, h3⟩ := h
  exact ⟨ng, G, cG, H, cH, h1, h2.at_, h3⟩
theorem GivesOfM.at_ {M : Nat → Prop} {o : An} {w : World} {e : Ending} {w' : World} (h : GivesOfM M o w e w') : GivesOf o w e w' := by
  obtain ⟨ng, nl, G, cG, H, cH, L, cL, h1, h2, h3, h4⟩ := h
  exact ⟨ng, nl, G, cG, H, cH, L, cL, h1, h2.at_, h3.1, h4⟩
def roomO (a : Al) (input : Int) : Int := if rightA a = false ∨ input < 0 ∨ (a.got.length : Int) ≤ input then 0 else 16 - ((a.held[input.toNat]?.getD []).length : Int)
theorem room_bad {a : Al} {input : Int} (h : rightA a = false ∨ input < 0 ∨ (a.got.length : Int) ≤ input) : roomO a input = 0 := if_pos h
theorem room_is {a : Al} {j : Nat} {l : List It} (hr : rightA a = true) (hj : j < a.got.length) (hl : a.held[j]? = some l) : roomO a (j : Int) = 16 - (l.length : Int) := by
  unfold roomO
  rw [if_neg (by rw [hr]; simp; omega), Int.toNat_natCast, hl]
  rfl
theorem new_bounds (n : Int) : (newO n).1.held.length = (newO n).1.got.length ∧ (newO n).1.got.length ≤ 8 ∧ ∀ l ∈ (newO n).1.held, l.length = 0 := by
  unfold newO
  split
  · simp [zA]
  · simp only [anew, List.length_replicate, true_and]
    refine ⟨by omega, fun l hl => ?_⟩
    rw [(List.mem_replicate.1 hl).2]; rfl
theorem hs_len {hs : List Hd} {held : List (List It)} (h : hs.map (fun x => x.2.2) = held) : hs.length = held.length := by rw [← h, List.length_map]
theorem rfNewS (n : Int) (w : World) : Calls Try.prog 11 #[.int .i64 n] w (GivesNw (newO n).1 (newO n).2 w) := by
  have hb := new_bounds n
  refine (rfNewO n (newO n) rfl _ rfl w).mono fun e w' ⟨G, cG, H, cH, hs, h1, h2, h3, h4⟩ => ?_
  refine ⟨_, G, cG, H, cH, h1, ⟨hs, ⟨rfl, by rw [hb.1], h2.rows.1, h2.rows.2.1, h3, h2.rows.2.2.1, h2.rows.2.2.2.1, h2.rows.2.2.2.2.1⟩, by have := hb.2.1; omega, by have := hb.2.1; omega, fun x hx => ?_⟩, h4⟩
  rw [hb.2.2 x.2.2 (by rw [← h3]; exact List.mem_map_of_mem hx)]; omega
theorem rfRightS {w : World} {a : Al} {ng nh : Nat} {G : Option Addr} {cG : Nat} {H : Option Addr} {cH : Nat} (h : AlAt w a ng nh G cG H cH) : Calls Try.prog 12 #[alV a.n G ng cG H nh cH] w (TellsB (rightA a) w) := by
  obtain ⟨hs, h1, h2⟩ := h
  exact rfRightA a hs h1.map ng nh h1.lng h1.lnh _ rfl G cG H cH w h1.hg h1.hh
theorem rfLikeS {w : World} {a : Al} {ng nh ng' nh' : Nat} {G : Option Addr} {cG : Nat} {H : Option Addr} {cH : Nat} {G' : Option Addr} {cG' : Nat} {H' : Option Addr} {cH' : Nat} (h : AlAt w a ng nh G cG H cH) (k : AlAt w a ng' nh' G' cG' H' cH') :
    Calls Try.prog 14 #[alV a.n G ng cG H nh cH, alV a.n G' ng' cG' H' nh' cH'] w (TellsB true w) := by
  obtain ⟨hs, h1, h2⟩ := h
  obtain ⟨ks, k1, k2⟩ := k
  have e1 : ng' = ng := by rw [h1.lng, k1.lng]
  have e2 : nh' = nh := by rw [h1.lnh, k1.lnh]
  subst e1 e2
  exact rfLikeA a.n a.got hs ks (by rw [h1.map, k1.map]) _ _ h1.lng (by rw [h1.lnh, ← h1.map, List.length_map]) (by have := h2.g; omega) (by have := h2.h; omega) (fun x hx => by have := h2.each x hx; omega) G G' H H' cG cG' cH cH' w h1.hg k1.hg h1.hh k1.hh
theorem rfLateS {w : World} {l : List Lt} {n n' : Nat} {L : Option Addr} {c : Nat} {L' : Option Addr} {c' : Nat} (h : LtAt w l n L c) (k : LtAt w l n' L' c') (hl : l.length ≤ 100000) :
    Calls Try.prog 19 #[.slice L n c, .slice L' n' c'] w (TellsB true w) := by
  have e1 : n' = n := by rw [h.ln, k.ln]
  subst e1
  exact rfLikeLate l _ h.ln (by rw [h.ln]; exact hl) L L' c c' w h.row k.row
theorem behind_len {a : Al} {j : Nat} {i : It} : (behindA a j i).got.length = a.got.length ∧ (behindA a j i).held.length = a.held.length := by
  unfold behindA
  refine ⟨List.length_set, ?_⟩
  simp only
  split
  · exact List.length_set
  · rfl
theorem behind_held {a : Al} {j : Nat} {i : It} (h : ∀ l ∈ a.held, l.length ≤ 16) : ∀ l ∈ (behindA a j i).held, l.length ≤ 17 := by
  intro l hl
  unfold behindA at hl
  simp only at hl
  split at hl
  · rcases List.mem_or_eq_of_mem_set hl with h1 | h1
    · have := h l h1; omega
    · rw [h1, List.length_append]
      cases e : a.held[j]? with
      | none => simp
      | some m => have := h m (List.mem_of_getElem? e); simp; omega
  · have := h l hl; omega
theorem ok_held {a : Al} (h : OkA a) : ∀ l ∈ a.held, l.length ≤ 16 := by
  intro l hl
  obtain ⟨k, hk⟩ := List.getElem?_of_mem hl
  have hkl := (List.getElem?_eq_some_iff.1 hk).1
  obtain ⟨g, hg⟩ : ∃ g, a.got[k]? = some g := ⟨_, List.getElem?_eq_getElem (by rw [← h.hl]; exact hkl)⟩
  exact (slot_iff.1 (h.slot k g l hg hk)).2.1
theorem offer_bounds (a : Al) (input : Int) (i : It) (st : Int) : (offerA a input i st).a.held.length = (offerA a input i st).a.got.length ∧ (offerA a input i st).a.got.length ≤ 8 ∧ (∀ l ∈ (offerA a input i st).a.held, l.length ≤ 17) ∧ (offerA a input i st).late.length ≤ 136 := by
  unfold offerA
  split
  · simp [zA]
  · rename_i h0
    have hr : OkA a := (ok_iff a).1 (by cases e : rightA a with | true => rfl | false => exact absurd (.inl e) h0)
    have hbl := behind_len (a := a) (j := input.toNat) (i := i)
    have hbh := behind_held (j := input.toNat) (i := i) (ok_held hr)
    have h8 := hr.len.2
    split
    · split
      · simp [zA]
      · simp only [List.length_nil]
        exact ⟨by rw [hbl.1, hbl.2, hr.hl], by rw [hbl.1]; exact h8, hbh, Nat.zero_le _⟩
    · split
      · simp only [List.length_nil]
        exact ⟨hr.hl, h8, fun l hl => by have := ok_held hr l hl; omega, Nat.zero_le _⟩
      · split
        · simp [zA]
        · split
          · simp only [anew, List.length_replicate, true_and]
            refine ⟨h8, fun l hl => by rw [(List.mem_replicate.1 hl).2]; exact Nat.zero_le _, ?_⟩
            have h1 := late_len (behindA a input.toNat i).held 0 17 hbh
            have h2 : (behindA a input.toNat i).held.length * 17 ≤ 8 * 17 := Nat.mul_le_mul_right 17 (by rw [hbl.2, hr.hl]; exact h8)
            omega
          · simp only [List.length_nil]
            exact ⟨by rw [hbl.1, hbl.2, hr.hl], by rw [hbl.1]; exact h8, hbh, Nat.zero_le _⟩
theorem rfOfferS {w : World} {a : Al} {ng nh : Nat} {G : Option Addr} {cG : Nat} {H : Option Addr} {cH : Nat} (h : AlAt w a ng nh G cG H cH) (input : Int) (i : It) :
    Calls Try.prog 18 #[alV a.n G ng cG H nh cH, .int .i64 input, itV i] w (GivesAnS (offerA a input i 190) w) := by
  obtain ⟨hs, h1, h2⟩ := h
  have hb := offer_bounds a input i 190
  refine (rfOffer a hs h1.map ng nh h1.lng h1.lnh input i (offerA a input i 190) rfl _ _ rfl rfl G cG H cH w h1.hg h1.hh h1.cg h1.ch h1.cap).mono fun e w' ⟨G2, cG2, H2, cH2, hs2, L2, cL2, g1, g2, g3, g4, g5, g6, g7, g8, g9, g10⟩ => ?_
  refine ⟨_, _, G2, cG2, H2, cH2, L2, cL2, g1, ⟨hs2, ⟨rfl, by rw [hb.1], g2, g3, g4, g5, g6, g7⟩, by have := hb.2.1; omega, by have := hb.2.1; omega, fun x hx => ?_⟩, ⟨rfl, g8, g9⟩, g10⟩
  have := hb.2.2.1 x.2.2 (by rw [← g4]; exact List.mem_map_of_mem hx)
  omega
def smallO (ng nh : Nat) (hs : List Hd) : Bool := (hs.all fun x => decide (x.2.2.length ≤ 100)) && (decide (nh ≤ 20) && decide (ng ≤ 20))
theorem small_iff {ng nh : Nat} {hs : List Hd} : smallO ng nh hs = true ↔ Small ng nh hs := by
  unfold smallO
  simp only [Bool.and_eq_true, List.all_eq_true, decide_eq_true_eq]
  exact ⟨fun ⟨h1, h2, h3⟩ => ⟨h3, h2, h1⟩, fun h => ⟨h.each, h.h, h.g⟩⟩
set_option maxRecDepth 100000 in
theorem lawSmallA {w : World} {a : Al} {ng nh : Nat} {G : Option Addr} {cG : Nat} {H : Option Addr} {cH : Nat} {hs : List Hd} (h : RawAt w a ng nh G cG H cH hs) (hl : nh ≤ 9223372036854775807) (r : Bool) (hr : r = smallO ng nh hs) :
    Calls Try.prog 9 #[alV a.n G ng cG H nh cH] w (TellsB r w) := by
  have HB := Lib.hid (below_al (o := .cells (alC a.n G ng cG H nh cH) 25) (Below.refl w.heap.size w))
  have LA := Lib.hid (Lies.new w (alC a.n G ng cG H nh cH) 25)
  have HR := Lib.hid h.hh
  have HNO : Hid (r = true → Small ng nh hs) := Lib.hid (fun e => small_iff.1 (hr.symm.trans e))
  have HYES : Hid (Small ng nh hs → r = true) := Lib.hid (fun e => hr.trans (small_iff.2 e))
  have HLN : Hid (hs.length = nh) := Lib.hid (by rw [h.lnh, ← h.map, List.length_map])
  have HL := Lib.hid hl
  clear h hr hl
  go_enter Try.func9, Try.ntmps9
  go_upto_region 1 with fail
  obtain ⟨tb, htb⟩ : ∃ b, b = w.heap.size := ⟨_, rfl⟩
  obtain ⟨W, hW⟩ : ∃ W, W = w.alloc (.cells (alC a.n G ng cG H nh cH) 25) := ⟨_, rfl⟩
  rw [← hW] at LA HB ⊢
  rw [← htb] at LA ⊢
  clear hW htb
  have x2 := LA.out.cell (j := 2) rfl
  go_wp2_with fail
  go_loopw [8] (fun i wr => ∃ k : Nat, i = .int .i64 k ∧ k ≤ nh ∧ (∀ (t : Nat) (x : Hd), t < k → hs[t]? = some x → x.2.2.length ≤ 100) ∧ wr = W) (fun i _ => nh - (intOf i).toNat)
  case atStart => exact ⟨0, rfl, Nat.zero_le _, fun t x ht => by omega, rfl⟩
  case round =>
    obtain ⟨k, rfl, hk, hall, rfl⟩ := hrel
    have HALL := Lib.hid hall
    clear hall
    by_cases hlt : k < nh
    · obtain ⟨⟨A, c, l⟩, hx⟩ : ∃ x, hs[k]? = some x := ⟨_, List.getElem?_eq_getElem (by rw [HLN.out]; exact hlt)⟩
      obtain ⟨q, off, hH, c0⟩ := head_row (HR.out.row.below HB.out) hx
      subst hH
      have HX := Lib.hid hx
      have hki : (k : Int) < (nh : Int) := by omega
      have hw := wrapKA (k := k) (by have := HL.out; omega)
      have HKM := Lib.hid hlt
      simp only at c0
      obtain ⟨m, hm⟩ : ∃ m, m = l.length := ⟨_, rfl⟩
      rw [← hm] at c0
      have HML := Lib.hid hm
      clear hx hlt hk hm
      by_cases h1 : 100 < m
      · have g1 : decide ((100 : Int) < (m : Int)) = true := decide_eq_true (by omega)
        have e : r = false := by
          cases hr : r
          · rfl
          · have := (HNO.out hr).each _ (List.mem_of_getElem? HX.out)
            simp only at this
            have := HML.out
            omega
        clear h1
        go_wp2_with fail
        go_ret
        exact ⟨by (try rw [e]); rfl, HB.out⟩
      · have g1 : decide ((100 : Int) < (m : Int)) = false := decide_eq_false (by omega)
        have HM1 : Hid (m ≤ 100) := Lib.hid (by omega)
        clear h1
        go_wp2_with fail
        go_roundw
        case rel =>
          refine ⟨k + 1, rfl, HKM.out, fun t x ht hx => ?_, trivial⟩
          by_cases e : t = k
          · subst e
            rw [HX.out] at hx
            cases hx
            simp only
            have h1 := HML.out
            have h2 := HM1.out
            omega
          · exact HALL.out t x (by omega) hx
        case measure => simp [intOf]; have := HKM.out; omega
    · have hki : ¬ (k : Int) < (nh : Int) := by omega
      have x1 := LA.out.cell (j := 1) rfl
      have HEV : Hid (∀ x ∈ hs, x.2.2.length ≤ 100) := Lib.hid (fun x hx => by
        obtain ⟨t, ht⟩ := List.getElem?_of_mem hx
        have hlt2 := (List.getElem?_eq_some_iff.1 ht).1
        exact HALL.out t x (by have := HLN.out; omega) ht)
      clear hlt hk
      by_cases h1 : nh ≤ 20
      · have g1 : decide ((nh : Int) ≤ 20) = true := decide_eq_true (by omega)
        by_cases h2 : ng ≤ 20
        · have g2 : decide ((ng : Int) ≤ 20) = true := decide_eq_true (by omega)
          have e : r = true := HYES.out ⟨h2, h1, HEV.out⟩
          clear h1 h2
          go_wp2_with fail
          go_ret
          exact ⟨by (try rw [e]); rfl, HB.out⟩
        · have g2 : decide ((ng : Int) ≤ 20) = false := decide_eq_false (by omega)
          have e : r = false := by
            cases hr : r
            · rfl
            · exact absurd (HNO.out hr).g h2
          clear h1 h2
          go_wp2_with fail
          go_ret
          exact ⟨by (try rw [e]); rfl, HB.out⟩
      · have g1 : decide ((nh : Int) ≤ 20) = false := decide_eq_false (by omega)
        have e : r = false := by
          cases hr : r
          · rfl
          · exact absurd (HNO.out hr).h h1
        clear h1
        go_wp2_with fail
        go_ret
        exact ⟨by (try rw [e]); rfl, HB.out⟩
end Aln
end Go.Proofs.Ytgbklmncfajcgaa
