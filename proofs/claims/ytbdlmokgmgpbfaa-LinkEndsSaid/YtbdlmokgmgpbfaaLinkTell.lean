/- The law's tell. -/
import Derived.Test.YtbdlmokgmgpbfaaLinkPl
import Derived.Test.YtbdlmokgmgpbfaaLinkTakeC
import Derived.Deep.RegionWith
namespace Go.Proofs.Ytbdlmokgmgpbfaa
open Go.ChangeShapes Go.WideShapes Go.ChangeAt Go.RowKit
set_option linter.unusedVariables false
set_option maxRecDepth 8000
namespace Lk
open Gen (TellsB TellsI Mine)
theorem step_app {P : Program} {ops : Array Oper} {o : Oper} {a : Act} {w : World} {K : Act → World → Prop} {Q : Exit → Act → World → Prop} {E : Prop}
    (hg : o.guard = none) (s x : Operand) (t : TypeId) (hop : o.op = Op.call { callee := Callee.builtin Builtin.append, args := #[s, x], argTypes := #[t, t] })
    (base : Nat) (e : TypeId) (i : TypeInfo) (z : Value) (size bytes : Nat) (ht : P.underlying t = some (.slice e)) (hi : P.info? e = some i) (hz : i.zero = some z)
    (hsize : i.size = size) (hby : i.bytes = bytes) (hzs : z.cells.size = size) (hsz : 0 < size)
    (v : Value) (n : Nat) (xs : List Value) (hs : a.eval s = v) (hown : w.ownsRow base e size v n xs)
    (ad : Addr) (m c : Nat) (news : List Value) (hx : a.eval x = .slice (some ad) m c) (hl : news.length = m * size) (hnews : ∀ j u, news[j]? = some u → w.cell? (ad.add j) = some u) (h1 : ∀ u ∈ news, u.oneCell' = true)
    (h63 : n + m ≤ maxLen) (hbytes : (n + m) * bytes ≤ 140737488355328) (hbase : base ≤ w.heap.size)
    (hK : ∀ v' w', w'.ownsRow base e size v' (n + m) (xs ++ news) → w.grownBy w' v.ownBlock → (v'.ownBlock = v.ownBlock ∨ v'.ownBlock = some w.heap.size) → K (a.put o.dst v') w') :
    if Region.wanted o (yielded ops a.tmps) = true then Oper.wp P o a w K Q else E := by
  have hw : Region.wanted o (yielded ops a.tmps) = true := by simp [Region.wanted, hg]
  rw [if_pos hw]
  obtain ⟨v', w', hrun, r1, r2, r3, r4⟩ := run_append_own_at (P := P) w base t o.type e i z size bytes ht hi hz hsize hby hzs hsz v n xs hown ad m c news hl hnews h1 h63 hbytes hbase
  unfold Oper.wp
  simp [execOp, hop, resolve, invoke, builtin, hs, hx, hrun, Result.andThen]
  exact hK v' w' r1 r2 r4
section
variable {W1 a c : World} {b k4 : Nat} {p : Wy} {x : Pk}
theorem keepT (hb : Below a.heap.size a c) (h : a.cell? ⟨b, 4, none⟩ = some (.int .i64 p.r.epoch) ∧ a.cell? ⟨b, 5, none⟩ = some (.int .i64 p.r.want) ∧ a.cell? ⟨k4, 0, none⟩ = some (.int .i64 x.epoch) ∧ a.cell? ⟨k4, 1, none⟩ = some (.int .i64 x.no) ∧ a.cell? ⟨k4, 2, none⟩ = some (.string x.body) ∧ Below W1.heap.size W1 a) : c.cell? ⟨b, 4, none⟩ = some (.int .i64 p.r.epoch) ∧ c.cell? ⟨b, 5, none⟩ = some (.int .i64 p.r.want) ∧ c.cell? ⟨k4, 0, none⟩ = some (.int .i64 x.epoch) ∧ c.cell? ⟨k4, 1, none⟩ = some (.int .i64 x.no) ∧ c.cell? ⟨k4, 2, none⟩ = some (.string x.body) ∧ Below W1.heap.size W1 c :=
  ⟨Gen.cell_below h.1 hb, Gen.cell_below h.2.1 hb, Gen.cell_below h.2.2.1 hb, Gen.cell_below h.2.2.2.1 hb, Gen.cell_below h.2.2.2.2.1 hb, below_next h.2.2.2.2.2 hb⟩
theorem keepTd {o : Obj} (h : a.drew.cell? ⟨b, 4, none⟩ = some (.int .i64 p.r.epoch) ∧ a.drew.cell? ⟨b, 5, none⟩ = some (.int .i64 p.r.want) ∧ a.drew.cell? ⟨k4, 0, none⟩ = some (.int .i64 x.epoch) ∧ a.drew.cell? ⟨k4, 1, none⟩ = some (.int .i64 x.no) ∧ a.drew.cell? ⟨k4, 2, none⟩ = some (.string x.body) ∧ Below W1.heap.size W1 a.drew) : (a.alloc o).drew.cell? ⟨b, 4, none⟩ = some (.int .i64 p.r.epoch) ∧ (a.alloc o).drew.cell? ⟨b, 5, none⟩ = some (.int .i64 p.r.want) ∧ (a.alloc o).drew.cell? ⟨k4, 0, none⟩ = some (.int .i64 x.epoch) ∧ (a.alloc o).drew.cell? ⟨k4, 1, none⟩ = some (.int .i64 x.no) ∧ (a.alloc o).drew.cell? ⟨k4, 2, none⟩ = some (.string x.body) ∧ Below W1.heap.size W1 (a.alloc o).drew := keepT (c := (a.alloc o).drew) (a := a.drew) (below_al (b := a.drew) (o := o) (Below.refl _ _)) h
theorem keepTs {g : Nat} {v0 v1 : Value} (h1 : g ≠ b) (h2 : g ≠ k4) (h3 : W1.heap.size ≤ g) (h : a.cell? ⟨b, 4, none⟩ = some (.int .i64 p.r.epoch) ∧ a.cell? ⟨b, 5, none⟩ = some (.int .i64 p.r.want) ∧ a.cell? ⟨k4, 0, none⟩ = some (.int .i64 x.epoch) ∧ a.cell? ⟨k4, 1, none⟩ = some (.int .i64 x.no) ∧ a.cell? ⟨k4, 2, none⟩ = some (.string x.body) ∧ Below W1.heap.size W1 a) : ((a.setCell ⟨g, 0, none⟩ v0).setCell ⟨g, 1, none⟩ v1).cell? ⟨b, 4, none⟩ = some (.int .i64 p.r.epoch) ∧ ((a.setCell ⟨g, 0, none⟩ v0).setCell ⟨g, 1, none⟩ v1).cell? ⟨b, 5, none⟩ = some (.int .i64 p.r.want) ∧ ((a.setCell ⟨g, 0, none⟩ v0).setCell ⟨g, 1, none⟩ v1).cell? ⟨k4, 0, none⟩ = some (.int .i64 x.epoch) ∧ ((a.setCell ⟨g, 0, none⟩ v0).setCell ⟨g, 1, none⟩ v1).cell? ⟨k4, 1, none⟩ = some (.int .i64 x.no) ∧ ((a.setCell ⟨g, 0, none⟩ v0).setCell ⟨g, 1, none⟩ v1).cell? ⟨k4, 2, none⟩ = some (.string x.body) ∧ Below W1.heap.size W1 ((a.setCell ⟨g, 0, none⟩ v0).setCell ⟨g, 1, none⟩ v1) := by
  refine ⟨?_, ?_, ?_, ?_, ?_, (h.2.2.2.2.2.setCell (p := ⟨g, 0, none⟩) h3 _).setCell (p := ⟨g, 1, none⟩) h3 _⟩
  · rw [World.cell?_setCell_far _ _ _ _ h1, World.cell?_setCell_far _ _ _ _ h1]; exact h.1
  · rw [World.cell?_setCell_far _ _ _ _ h1, World.cell?_setCell_far _ _ _ _ h1]; exact h.2.1
  · rw [World.cell?_setCell_far _ _ _ _ h2, World.cell?_setCell_far _ _ _ _ h2]; exact h.2.2.1
  · rw [World.cell?_setCell_far _ _ _ _ h2, World.cell?_setCell_far _ _ _ _ h2]; exact h.2.2.2.1
  · rw [World.cell?_setCell_far _ _ _ _ h2, World.cell?_setCell_far _ _ _ _ h2]; exact h.2.2.2.2.1
end
theorem below_da (w : World) (o : Obj) : Below w.heap.size w (w.drew.alloc o) := below_al (below_drewOf (Below.refl _ _))
theorem str_rc : 9 ≠ 41 := by decide
theorem keepLR {a c : World} (hb : Below a.heap.size a c) : ∀ k C, Lies k C 41 a → Lies k C 41 c := fun k C h => h.below hb
set_option maxRecDepth 100000 in
set_option maxHeartbeats 4000000 in
theorem lawTell (w0 : World) (b : Nat) (p : Wy) (i : Nat) (x : Pk) (hx : p.way[i]? = some x) (hok : (takeO p.r x).2.2 = 0) (hl : p.way.length ≤ 10000 ∧ p.got.length ≤ 10000 ∧ p.wants.length ≤ 10000) (w : World) (h : Plays w0 b p w) :
    Calls Try.prog 38 #[.pointer (some ⟨b, 0, none⟩), .int .i64 i] w (DidP w0 b (tellO p x)) := by
  obtain ⟨vb, vw, vp, vg, vs, hP⟩ := h
  obtain ⟨⟨q, is, z⟩, ho⟩ : ∃ o, o = takeO p.r x := ⟨_, rfl⟩
  have hT : tellO p x = { p with r := q, got := if is then p.got ++ [x.body] else p.got, wants := p.wants ++ [q.want] } := by
    unfold tellO
    rw [← ho] at hok ⊢
    simp only at hok
    rw [if_neg (by simp [hok])]
  have hz : z = 0 := by rw [← ho] at hok; exact hok
  subst hz
  rw [hT]
  have HT := Lib.hid (fun w => ckTake p.r.epoch p.r.want x.epoch x.no x.body _ ho w)
  obtain ⟨qe, qw⟩ := q
  obtain ⟨i1, hi1, hz1, hs1, hb1⟩ := info_partsL BInfo
  have HI1 := Lib.hid hi1; have HZ1 := Lib.hid hz1; have HS1 := Lib.hid hs1; have HB1 := Lib.hid hb1
  obtain ⟨i2, hi2, hz2, hs2, hb2⟩ := info_partsL IInfo
  have HI2 := Lib.hid hi2; have HZ2 := Lib.hid hz2; have HS2 := Lib.hid hs2; have HB2 := Lib.hid hb2
  have hil := (List.getElem?_eq_some_iff.1 hx).1
  obtain ⟨n, hn⟩ : ∃ n, n = p.way.length := ⟨_, rfl⟩
  rw [← hn] at hil hl
  have hway := hP.way
  rw [← hn] at hway
  obtain ⟨WA, wcap, rfl, c1, c2, _, c3, _⟩ := own_form hway (by omega)
  obtain ⟨g, off, rfl, d⟩ := row_pk c3 hx
  have d0 := d.c0; have d1 := d.c1; have d2 := d.c2
  have hii : (i : Int) < (n : Int) := by omega
  have HP0 := Lib.hid hP
  have x6 := hP.at_.cell (j := 6) rfl
  have HLL := Lib.hid hl
  have hlt := lies_lt hP.at_
  clear hP hway c1 c2 c3 d ho hok hT hx hn hi1 hz1 hs1 hb1 hi2 hz2 hs2 hb2
  go_enter Try.func38, Try.ntmps38
  go_upto_region 1 with fail
  have L4 := Lib.hid (Lies.new w (pkC x) 26)
  have P1 := Lib.hid (HP0.out.next (below_al (o := .cells (pkC x) 26) (Below.refl _ _)))
  obtain ⟨k4, hk4⟩ : ∃ k, k = w.heap.size := ⟨_, rfl⟩
  obtain ⟨W1, hW⟩ : ∃ W, W = w.alloc (.cells (pkC x) 26) := ⟨_, rfl⟩
  rw [← hW] at L4 P1 ⊢
  rw [← hk4] at L4 ⊢
  have hbk : b < k4 := by omega
  clear hW hk4 x6 d0 d1 d2 hlt HP0
  go_cut [5, 6, 7] from 25 (fun s5 s6 s7 wc => ∃ b5, s5 = .pointer (some ⟨b5, 0, none⟩) ∧ s6 = .bool is ∧ s7 = .int .i64 0 ∧ Lies b5 #[.int .i64 qe, .int .i64 qw] 41 wc ∧ Below W1.heap.size W1 wc)
  case first =>
    have S0 : W1.drew.cell? ⟨b, 4, none⟩ = some (.int .i64 p.r.epoch) ∧ W1.drew.cell? ⟨b, 5, none⟩ = some (.int .i64 p.r.want) ∧ W1.drew.cell? ⟨k4, 0, none⟩ = some (.int .i64 x.epoch) ∧ W1.drew.cell? ⟨k4, 1, none⟩ = some (.int .i64 x.no) ∧ W1.drew.cell? ⟨k4, 2, none⟩ = some (.string x.body) ∧ Below W1.heap.size W1 W1.drew := ⟨P1.out.at_.cell (j := 4) rfl, P1.out.at_.cell (j := 5) rfl, L4.out.cell (j := 0) rfl, L4.out.cell (j := 1) rfl, L4.out.cell (j := 2) rfl, below_drewOf (Below.refl _ _)⟩
    have hkW : k4 < W1.heap.size := lies_lt L4.out
    have HKW := Lib.hid (And.intro hkW (Nat.lt_trans hbk hkW))
    clear hkW
    go_region_held3 (fun w' => w'.cell? ⟨b, 4, none⟩ = some (.int .i64 p.r.epoch) ∧ w'.cell? ⟨b, 5, none⟩ = some (.int .i64 p.r.want) ∧ w'.cell? ⟨k4, 0, none⟩ = some (.int .i64 x.epoch) ∧ w'.cell? ⟨k4, 1, none⟩ = some (.int .i64 x.no) ∧ w'.cell? ⟨k4, 2, none⟩ = some (.string x.body) ∧ Below W1.heap.size W1 w')
      (first | with_reducible assumption | ((with_reducible refine keepTs ?_ ?_ ?_ ?_) <;> first | with_reducible assumption | (have := HKW.out; omega)) | ((with_reducible refine keepT hb5 ?_); with_reducible assumption) | ((with_reducible refine keepTd ?_); with_reducible assumption) | ((with_reducible refine keepT (below_al (Below.refl _ _)) ?_); with_reducible assumption) | ((with_reducible refine keepT (below_al (Below.refl _ _)) ?_); with_reducible exact HS5.out))
      ((go_at_call 20
        refine (HT.out _).mono ?_
        rintro e w5 ⟨rfl, hb5⟩
        have HS5 := Lib.hid (keepT hb5 (by with_reducible assumption))
        have HK5 := Lib.hid (keepLR hb5)
        (try have hlz := HK5.out _ _ (by first | with_reducible exact Lies.new _ _ _ | with_reducible exact (Lies.new _ _ _).al | with_reducible exact (Lies.new _ _ _).drew | with_reducible exact (Lies.new _ _ _).al.drew))
        (try simp only [World.size_alloc] at hlz)
        (try have HLZ := Lib.hid hlz)
        (try clear hlz)
        (try have z0 := HLZ.out.cell (j := 0) rfl)
        (try have z1 := HLZ.out.cell (j := 1) rfl)
        (try have f0 := HLZ.out.free 0)
        (try have f1 := HLZ.out.free 1)
        dsimp only))
    all_goals (
      go_wp2_with fail
      go_meet
      case rel => first | exact ⟨_, rfl, rfl, rfl, Lies.new _ _ _, below_al HS5.out.2.2.2.2.2⟩ | exact ⟨_, rfl, rfl, rfl, lies_put2 HLZ.out _ _, (HS5.out.2.2.2.2.2.setCell (p := ⟨W1.heap.size, 0, none⟩) (Nat.le_refl _) _).setCell (p := ⟨W1.heap.size, 1, none⟩) (Nat.le_refl _) _⟩)
  case rest =>
    obtain ⟨b5, rfl, rfl, rfl, hl5, hb5⟩ := hcut
    have P2 := Lib.hid (P1.out.next hb5)
    have L42 := Lib.hid (L4.out.below hb5)
    have L5 := Lib.hid hl5
    have HNE := Lib.hid (fun e : b5 = b => by
      have h1 := P2.out.at_
      rw [← e] at h1
      have h2 : Lies b5 #[.int .i64 qe, .int .i64 qw] 41 wc := hl5
      unfold Lies at h1 h2
      rw [h1] at h2
      simp at h2 : b5 ≠ b)
    clear hl5 hb5 P1 L4
    have r0 := L5.out.cell (j := 0) rfl
    have r1 := L5.out.cell (j := 1) rfl
    have x4 := P2.out.at_.cell (j := 4) rfl; have x5 := P2.out.at_.cell (j := 5) rfl
    have f4 := P2.out.at_.free 4; have f5 := P2.out.at_.free 5
    have P3 := Lib.hid (P2.out.rc ⟨qe, qw⟩)
    have L43 := Lib.hid ((L42.out.other (c := b) (by omega) 4 (.int .i64 qe)).other (c := b) (by omega) 5 (.int .i64 qw))
    have L53 := Lib.hid ((L5.out.other HNE.out 4 (.int .i64 qe)).other HNE.out 5 (.int .i64 qw))
    go_upto_region 5 with fail
    obtain ⟨W3, hW⟩ : ∃ W, W = (wc.setCell ⟨b, 4, none⟩ (.int .i64 qe)).setCell ⟨b, 5, none⟩ (.int .i64 qw) := ⟨_, rfl⟩
    rw [← hW] at P3 L43 L53 ⊢
    clear hW r0 r1 x4 x5 f4 f5 P2 L42 L5
    cases is
    · simp only [if_false, Bool.false_eq_true]
      obtain ⟨m, hm⟩ : ∃ m, m = p.wants.length := ⟨_, rfl⟩
      have HM := Lib.hid hm
      have hws := P3.out.wants
      simp only at hws
      rw [← hm] at hws
      obtain ⟨SA, sc, rfl, _⟩ := own_form hws (by omega)
      have OWS := Lib.hid (own_upL hws (below_da W3 (.cells #[.int .i64 qw] 3)))
      have HMM : Hid (m ≤ 10000) := Lib.hid (by rw [hm]; exact HLL.out.2.2)
      clear hm hws
      have x10 := P3.out.at_.cell (j := 10) rfl
      have r1 := L53.out.cell (j := 1) rfl
      have hb5 := lies_lt L53.out
      have hbb := lies_lt P3.out.at_
      go_upto_region 7 with fail
      go_region_law (refine step_app rfl (.tmp 50) (.tmp 53) 49 rfl w0.heap.size 3 i2 _ 1 8 Try.underlying49 HI2.out HZ2.out HS2.out HB2.out rfl (by omega) (.slice SA m sc) m (ivs p.wants) (by simp [Act.eval]) OWS.out ⟨W3.drew.heap.size, 0, none⟩ 1 1 [.int .i64 qw] (by simp [Act.eval]) rfl (cells_new W3.drew #[.int .i64 qw] 3) (ivs_ones [qw]) (by have := HMM.out; unfold maxLen; omega) (by have := HMM.out; omega) (Nat.le_trans P3.out.below.size (Nat.le_of_lt (by show W3.heap.size < (W3.alloc _).heap.size; simp))) ?_; intro v' w' hown hgrow hat; obtain ⟨NA, nc, rfl, _⟩ := own_form hown (by omega); have OW := Lib.hid hown; have GR := Lib.hid hgrow; have AT := Lib.hid hat; have PX := Lib.hid (P3.out.next (below_da W3 (.cells #[.int .i64 qw] 3))); have LX := Lib.hid (lies_grownK PX.out.at_ hgrow PX.out.far.2.2.2.2); have y10 := LX.out.cell (j := 10) rfl; have g10 := LX.out.free 10; clear hown hgrow hat)
      all_goals
        go_end0
        have R := PX.out.ws GR.out (p.wants ++ [qw]) (.slice NA (m + 1) nc) (m + 1) (by rw [List.length_append, HM.out]; rfl) (by have h := OW.out; rw [show ivs (p.wants ++ [qw]) = ivs p.wants ++ [.int .i64 qw] by simp]; exact h)
        first | exact ⟨rfl, _, _, _, _, _, R⟩ | exact ⟨rfl, _, _, _, _, _, R.next (below_drewOf (Below.refl _ _))⟩
    · simp only [if_true]
      obtain ⟨k, hk⟩ : ∃ k, k = p.got.length := ⟨_, rfl⟩
      have HK := Lib.hid hk
      have hgs := P3.out.got
      simp only at hgs
      rw [← hk] at hgs
      obtain ⟨GA, gc, rfl, _⟩ := own_form hgs (by omega)
      have OGS := Lib.hid (own_upL hgs (below_da W3 (.cells #[.string x.body] 9)))
      have HKK : Hid (k ≤ 10000) := Lib.hid (by rw [hk]; exact HLL.out.2.1)
      clear hk hgs
      have x8 := P3.out.at_.cell (j := 8) rfl
      have r2 := L43.out.cell (j := 2) rfl
      have hb4 := lies_lt L43.out
      have hbb := lies_lt P3.out.at_
      go_upto_region 6 with fail
      go_region_law (refine step_app rfl (.tmp 39) (.tmp 42) 22 rfl w0.heap.size 9 i1 _ 1 16 Try.underlying22 HI1.out HZ1.out HS1.out HB1.out rfl (by omega) (.slice GA k gc) k (bcs p.got) (by simp [Act.eval]) OGS.out ⟨W3.drew.heap.size, 0, none⟩ 1 1 [.string x.body] (by simp [Act.eval]) rfl (cells_new W3.drew #[.string x.body] 9) (bcs_ones [x.body]) (by have := HKK.out; unfold maxLen; omega) (by have := HKK.out; omega) (Nat.le_trans P3.out.below.size (Nat.le_of_lt (by show W3.heap.size < (W3.alloc _).heap.size; simp))) ?_; intro v' w' hown hgrow hat; obtain ⟨NA, nc, rfl, _⟩ := own_form hown (by omega); have OW := Lib.hid hown; have GR := Lib.hid hgrow; have AT := Lib.hid hat; have PX := Lib.hid (P3.out.next (below_da W3 (.cells #[.string x.body] 9))); have LX := Lib.hid (lies_grownK PX.out.at_ hgrow PX.out.far.2.2.2.1); have LY := Lib.hid (lies_grownK (L53.out.below (below_da W3 (.cells #[.string x.body] 9))) hgrow (own_blk PX.out.got (L53.out.below (below_da W3 (.cells #[.string x.body] 9))) str_rc)); have y8 := LX.out.cell (j := 8) rfl; have g8 := LX.out.free 8; clear hown hgrow hat)
      all_goals (
        have R := PX.out.gt GR.out (p.got ++ [x.body]) (.slice NA (k + 1) nc) (k + 1) (by rw [List.length_append, HK.out]; rfl) AT.out (by have h := OW.out; rw [show bcs (p.got ++ [x.body]) = bcs p.got ++ [.string x.body] by simp [bcs]]; exact h)
        have P5 := Lib.hid R
        have L55 := Lib.hid (Lies.other LY.out HNE.out 8 (.slice NA (k + 1) nc))
        go_upto_region 7 with fail
        obtain ⟨W5, hW⟩ : ∃ W, W = w'.setCell ⟨b, 8, none⟩ (.slice NA (k + 1) nc) := ⟨_, rfl⟩
        rw [← hW] at P5 L55 ⊢
        clear hW R PX GR OW AT LX y8 g8 LY x8 r2 P3 L43 L53 OGS hb4 hbb
        obtain ⟨m, hm⟩ : ∃ m, m = p.wants.length := ⟨_, rfl⟩
        have HM := Lib.hid hm
        have hws := P5.out.wants
        simp only at hws
        rw [← hm] at hws
        obtain ⟨SA, sc, rfl, _⟩ := own_form hws (by omega)
        have OWS := Lib.hid (own_upL hws (below_da W5 (.cells #[.int .i64 qw] 3)))
        have HMM : Hid (m ≤ 10000) := Lib.hid (by rw [hm]; exact HLL.out.2.2)
        clear hm hws
        have x10 := P5.out.at_.cell (j := 10) rfl
        have r1 := L55.out.cell (j := 1) rfl
        have hb5 := lies_lt L55.out
        have hbb := lies_lt P5.out.at_
        go_region_law (refine step_app rfl (.tmp 50) (.tmp 53) 49 rfl w0.heap.size 3 i2 _ 1 8 Try.underlying49 HI2.out HZ2.out HS2.out HB2.out rfl (by omega) (.slice SA m sc) m (ivs p.wants) (by simp [Act.eval]) OWS.out ⟨W5.drew.heap.size, 0, none⟩ 1 1 [.int .i64 qw] (by simp [Act.eval]) rfl (cells_new W5.drew #[.int .i64 qw] 3) (ivs_ones [qw]) (by have := HMM.out; unfold maxLen; omega) (by have := HMM.out; omega) (Nat.le_trans P5.out.below.size (Nat.le_of_lt (by show W5.heap.size < (W5.alloc _).heap.size; simp))) ?_; intro v' w' hown hgrow hat; obtain ⟨NA2, nc2, rfl, _⟩ := own_form hown (by omega); have OW := Lib.hid hown; have GR := Lib.hid hgrow; have AT := Lib.hid hat; have PX := Lib.hid (P5.out.next (below_da W5 (.cells #[.int .i64 qw] 3))); have LX := Lib.hid (lies_grownK PX.out.at_ hgrow PX.out.far.2.2.2.2); have y10 := LX.out.cell (j := 10) rfl; have g10 := LX.out.free 10; clear hown hgrow hat)
        all_goals (
          go_end0
          have R := PX.out.ws GR.out (p.wants ++ [qw]) (.slice NA2 (m + 1) nc2) (m + 1) (by rw [List.length_append, HM.out]; rfl) (by have h := OW.out; rw [show ivs (p.wants ++ [qw]) = ivs p.wants ++ [.int .i64 qw] by simp]; exact h)
          exact ⟨rfl, _, _, _, _, _, R⟩))
end Lk
end Go.Proofs.Ytbdlmokgmgpbfaa
