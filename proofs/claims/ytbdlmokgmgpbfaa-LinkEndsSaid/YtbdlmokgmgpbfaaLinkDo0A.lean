/- The law's do: the region that pushes (a call, and two allocs that float: six orders). -/
import Derived.Test.YtbdlmokgmgpbfaaLinkDo4
namespace Go.Proofs.Ytbdlmokgmgpbfaa
open Go.ChangeShapes Go.WideShapes Go.ChangeAt Go.RowKit
set_option linter.unusedVariables false
set_option maxRecDepth 8000
namespace Lk
open Gen (TellsB TellsI Mine)

section
variable {W1 a c : World} {b ka : Nat} {p : Wy} {cb : ByteArray} {vb : Value}
theorem keep12 (hb : Below a.heap.size a c) (h : a.cell? ⟨b, 0, none⟩ = some (.int .i64 p.s.epoch) ∧ a.cell? ⟨b, 1, none⟩ = some (.int .i64 p.s.base) ∧ a.cell? ⟨b, 2, none⟩ = some vb ∧ a.cell? ⟨b, 3, none⟩ = some (.int .i64 p.s.timer) ∧ a.cell? ⟨ka, 2, none⟩ = some (.string cb) ∧ Below W1.heap.size W1 a) : c.cell? ⟨b, 0, none⟩ = some (.int .i64 p.s.epoch) ∧ c.cell? ⟨b, 1, none⟩ = some (.int .i64 p.s.base) ∧ c.cell? ⟨b, 2, none⟩ = some vb ∧ c.cell? ⟨b, 3, none⟩ = some (.int .i64 p.s.timer) ∧ c.cell? ⟨ka, 2, none⟩ = some (.string cb) ∧ Below W1.heap.size W1 c :=
  ⟨Gen.cell_below h.1 hb, Gen.cell_below h.2.1 hb, Gen.cell_below h.2.2.1 hb, Gen.cell_below h.2.2.2.1 hb, Gen.cell_below h.2.2.2.2.1 hb, below_next h.2.2.2.2.2 hb⟩
theorem keep12d {ob : Obj} (h : a.drew.cell? ⟨b, 0, none⟩ = some (.int .i64 p.s.epoch) ∧ a.drew.cell? ⟨b, 1, none⟩ = some (.int .i64 p.s.base) ∧ a.drew.cell? ⟨b, 2, none⟩ = some vb ∧ a.drew.cell? ⟨b, 3, none⟩ = some (.int .i64 p.s.timer) ∧ a.drew.cell? ⟨ka, 2, none⟩ = some (.string cb) ∧ Below W1.heap.size W1 a.drew) : (a.alloc ob).drew.cell? ⟨b, 0, none⟩ = some (.int .i64 p.s.epoch) ∧ (a.alloc ob).drew.cell? ⟨b, 1, none⟩ = some (.int .i64 p.s.base) ∧ (a.alloc ob).drew.cell? ⟨b, 2, none⟩ = some vb ∧ (a.alloc ob).drew.cell? ⟨b, 3, none⟩ = some (.int .i64 p.s.timer) ∧ (a.alloc ob).drew.cell? ⟨ka, 2, none⟩ = some (.string cb) ∧ Below W1.heap.size W1 (a.alloc ob).drew := keep12 (c := (a.alloc ob).drew) (a := a.drew) (below_al (b := a.drew) (o := ob) (Below.refl _ _)) h
theorem keep12a {ob : Obj} (h : a.cell? ⟨b, 0, none⟩ = some (.int .i64 p.s.epoch) ∧ a.cell? ⟨b, 1, none⟩ = some (.int .i64 p.s.base) ∧ a.cell? ⟨b, 2, none⟩ = some vb ∧ a.cell? ⟨b, 3, none⟩ = some (.int .i64 p.s.timer) ∧ a.cell? ⟨ka, 2, none⟩ = some (.string cb) ∧ Below W1.heap.size W1 a) : (a.alloc ob).cell? ⟨b, 0, none⟩ = some (.int .i64 p.s.epoch) ∧ (a.alloc ob).cell? ⟨b, 1, none⟩ = some (.int .i64 p.s.base) ∧ (a.alloc ob).cell? ⟨b, 2, none⟩ = some vb ∧ (a.alloc ob).cell? ⟨b, 3, none⟩ = some (.int .i64 p.s.timer) ∧ (a.alloc ob).cell? ⟨ka, 2, none⟩ = some (.string cb) ∧ Below W1.heap.size W1 (a.alloc ob) := keep12 (below_al (Below.refl _ _)) h
theorem keep12s {k : Nat} {v0 v1 v2 v3 : Value} (h1 : k ≠ b) (h2 : k ≠ ka) (h3 : W1.heap.size ≤ k) (h : a.cell? ⟨b, 0, none⟩ = some (.int .i64 p.s.epoch) ∧ a.cell? ⟨b, 1, none⟩ = some (.int .i64 p.s.base) ∧ a.cell? ⟨b, 2, none⟩ = some vb ∧ a.cell? ⟨b, 3, none⟩ = some (.int .i64 p.s.timer) ∧ a.cell? ⟨ka, 2, none⟩ = some (.string cb) ∧ Below W1.heap.size W1 a) : ((((a.setCell ⟨k, 0, none⟩ v0).setCell ⟨k, 1, none⟩ v1).setCell ⟨k, 2, none⟩ v2).setCell ⟨k, 3, none⟩ v3).cell? ⟨b, 0, none⟩ = some (.int .i64 p.s.epoch) ∧ ((((a.setCell ⟨k, 0, none⟩ v0).setCell ⟨k, 1, none⟩ v1).setCell ⟨k, 2, none⟩ v2).setCell ⟨k, 3, none⟩ v3).cell? ⟨b, 1, none⟩ = some (.int .i64 p.s.base) ∧ ((((a.setCell ⟨k, 0, none⟩ v0).setCell ⟨k, 1, none⟩ v1).setCell ⟨k, 2, none⟩ v2).setCell ⟨k, 3, none⟩ v3).cell? ⟨b, 2, none⟩ = some vb ∧ ((((a.setCell ⟨k, 0, none⟩ v0).setCell ⟨k, 1, none⟩ v1).setCell ⟨k, 2, none⟩ v2).setCell ⟨k, 3, none⟩ v3).cell? ⟨b, 3, none⟩ = some (.int .i64 p.s.timer) ∧ ((((a.setCell ⟨k, 0, none⟩ v0).setCell ⟨k, 1, none⟩ v1).setCell ⟨k, 2, none⟩ v2).setCell ⟨k, 3, none⟩ v3).cell? ⟨ka, 2, none⟩ = some (.string cb) ∧ Below W1.heap.size W1 ((((a.setCell ⟨k, 0, none⟩ v0).setCell ⟨k, 1, none⟩ v1).setCell ⟨k, 2, none⟩ v2).setCell ⟨k, 3, none⟩ v3) := by
  refine ⟨?_, ?_, ?_, ?_, ?_, Gen.below_set4 h.2.2.2.2.2 h3 _ _ _ _⟩
  · rw [World.cell?_setCell_far _ _ _ _ h1, World.cell?_setCell_far _ _ _ _ h1, World.cell?_setCell_far _ _ _ _ h1, World.cell?_setCell_far _ _ _ _ h1]; exact h.1
  · rw [World.cell?_setCell_far _ _ _ _ h1, World.cell?_setCell_far _ _ _ _ h1, World.cell?_setCell_far _ _ _ _ h1, World.cell?_setCell_far _ _ _ _ h1]; exact h.2.1
  · rw [World.cell?_setCell_far _ _ _ _ h1, World.cell?_setCell_far _ _ _ _ h1, World.cell?_setCell_far _ _ _ _ h1, World.cell?_setCell_far _ _ _ _ h1]; exact h.2.2.1
  · rw [World.cell?_setCell_far _ _ _ _ h1, World.cell?_setCell_far _ _ _ _ h1, World.cell?_setCell_far _ _ _ _ h1, World.cell?_setCell_far _ _ _ _ h1]; exact h.2.2.2.1
  · rw [World.cell?_setCell_far _ _ _ _ h2, World.cell?_setCell_far _ _ _ _ h2, World.cell?_setCell_far _ _ _ _ h2, World.cell?_setCell_far _ _ _ _ h2]; exact h.2.2.2.2.1
theorem keep12t {k : Nat} {v0 v1 v2 : Value} (h1 : k ≠ b) (h2 : k ≠ ka) (h3 : W1.heap.size ≤ k) (h : a.cell? ⟨b, 0, none⟩ = some (.int .i64 p.s.epoch) ∧ a.cell? ⟨b, 1, none⟩ = some (.int .i64 p.s.base) ∧ a.cell? ⟨b, 2, none⟩ = some vb ∧ a.cell? ⟨b, 3, none⟩ = some (.int .i64 p.s.timer) ∧ a.cell? ⟨ka, 2, none⟩ = some (.string cb) ∧ Below W1.heap.size W1 a) : (((a.setCell ⟨k, 0, none⟩ v0).setCell ⟨k, 1, none⟩ v1).setCell ⟨k, 2, none⟩ v2).cell? ⟨b, 0, none⟩ = some (.int .i64 p.s.epoch) ∧ (((a.setCell ⟨k, 0, none⟩ v0).setCell ⟨k, 1, none⟩ v1).setCell ⟨k, 2, none⟩ v2).cell? ⟨b, 1, none⟩ = some (.int .i64 p.s.base) ∧ (((a.setCell ⟨k, 0, none⟩ v0).setCell ⟨k, 1, none⟩ v1).setCell ⟨k, 2, none⟩ v2).cell? ⟨b, 2, none⟩ = some vb ∧ (((a.setCell ⟨k, 0, none⟩ v0).setCell ⟨k, 1, none⟩ v1).setCell ⟨k, 2, none⟩ v2).cell? ⟨b, 3, none⟩ = some (.int .i64 p.s.timer) ∧ (((a.setCell ⟨k, 0, none⟩ v0).setCell ⟨k, 1, none⟩ v1).setCell ⟨k, 2, none⟩ v2).cell? ⟨ka, 2, none⟩ = some (.string cb) ∧ Below W1.heap.size W1 (((a.setCell ⟨k, 0, none⟩ v0).setCell ⟨k, 1, none⟩ v1).setCell ⟨k, 2, none⟩ v2) := by
  refine ⟨?_, ?_, ?_, ?_, ?_, ((h.2.2.2.2.2.setCell (p := ⟨k, 0, none⟩) h3 _).setCell (p := ⟨k, 1, none⟩) h3 _).setCell (p := ⟨k, 2, none⟩) h3 _⟩
  · rw [World.cell?_setCell_far _ _ _ _ h1, World.cell?_setCell_far _ _ _ _ h1, World.cell?_setCell_far _ _ _ _ h1]; exact h.1
  · rw [World.cell?_setCell_far _ _ _ _ h1, World.cell?_setCell_far _ _ _ _ h1, World.cell?_setCell_far _ _ _ _ h1]; exact h.2.1
  · rw [World.cell?_setCell_far _ _ _ _ h1, World.cell?_setCell_far _ _ _ _ h1, World.cell?_setCell_far _ _ _ _ h1]; exact h.2.2.1
  · rw [World.cell?_setCell_far _ _ _ _ h1, World.cell?_setCell_far _ _ _ _ h1, World.cell?_setCell_far _ _ _ _ h1]; exact h.2.2.2.1
  · rw [World.cell?_setCell_far _ _ _ _ h2, World.cell?_setCell_far _ _ _ _ h2, World.cell?_setCell_far _ _ _ _ h2]; exact h.2.2.2.2.1
end
theorem str_sn : 9 ≠ 24 := by decide
theorem str_ac : 9 ≠ 53 := by decide
theorem pk_ac : 26 ≠ 53 := by decide
theorem pk_sn : 26 ≠ 24 := by decide
theorem int_ac : 3 ≠ 53 := by decide
/-- A cell of a block beside is set. -/
theorem PlAt.beside {w0 : World} {b : Nat} {p : Wy} {vb vw vp vg vs : Value} {w : World} (h : PlAt w0 b p vb vw vp vg vs w) {k : Nat} {C : Array Value} (hl : Lies k C 53 w) (hb : b ≠ k) (hk : w0.heap.size ≤ k) (o : Nat) (v : Value) : PlAt w0 b p vb vw vp vg vs (w.setCell ⟨k, o, none⟩ v) :=
  ⟨h.at_.other hb _ _, own_cell h.bod (own_blk h.bod hl str_ac) _ _, own_cell h.way (own_blk h.way hl pk_ac) _ _, own_cell h.put (own_blk h.put hl str_ac) _ _, own_cell h.got (own_blk h.got hl str_ac) _ _, own_cell h.wants (own_blk h.wants hl int_ac) _ _, h.bp, h.bg, h.pg, h.ge, h.below.setCell (p := ⟨k, o, none⟩) hk _⟩
/-- The sender is set, and what is on its way has grown. -/
theorem PlAt.sw {w0 : World} {b : Nat} {p : Wy} {vb vw vp vg vs : Value} {w w' : World} (h : PlAt w0 b p vb vw vp vg vs w) (hg : w.grownBy w' vw.ownBlock) (s : Sn) (v : Value) (n : Nat) (hn : n = s.bodies.length) (hv : w.ownsRow w0.heap.size 9 1 v n (bcs s.bodies)) (h1 : Apart v vp) (h2 : Apart v vg)
    (l : List Pk) (u : Value) (m : Nat) (hm : m = l.length) (hu : w'.ownsRow w0.heap.size 26 3 u m (pcs l)) :
    PlAt w0 b { p with s := s, way := l } v u vp vg vs (((((w'.setCell ⟨b, 0, none⟩ (.int .i64 s.epoch)).setCell ⟨b, 1, none⟩ (.int .i64 s.base)).setCell ⟨b, 2, none⟩ v).setCell ⟨b, 3, none⟩ (.int .i64 s.timer)).setCell ⟨b, 6, none⟩ u) := by
  subst hn
  subst hm
  have at1 := lies_grownK h.at_ hg h.far.2.1
  have o0 := own_grown hv hg (own_kind hv h.way str_pk)
  have o3 := own_grown h.put hg (own_kind h.put h.way str_pk)
  have o4 := own_grown h.got hg (own_kind h.got h.way str_pk)
  have o5 := own_grown h.wants hg (own_kind h.way h.wants pk_int).symm
  obtain ⟨f1, f2, f3, f4, f5⟩ := h.far
  have g0 := own_blk o0 at1 str_pl
  have g6 := own_blk hu at1 pk_pl
  have k5 : ∀ {B size n : Nat} {e : TypeId} {y : Value} {cs : List Value}, w'.ownsRow B e size y n cs → y.ownBlock ≠ some b → (((((w'.setCell ⟨b, 0, none⟩ (.int .i64 s.epoch)).setCell ⟨b, 1, none⟩ (.int .i64 s.base)).setCell ⟨b, 2, none⟩ v).setCell ⟨b, 3, none⟩ (.int .i64 s.timer)).setCell ⟨b, 6, none⟩ u).ownsRow B e size y n cs :=
    fun ho hf => own_cell (own_cell (own_cell (own_cell (own_cell ho hf _ _) hf _ _) hf _ _) hf _ _) hf _ _
  refine ⟨?_, k5 o0 g0, k5 hu g6, k5 o3 f3, k5 o4 f4, k5 o5 f5, h1, h2, h.pg, h.ge, (Gen.below_set4 (h.below.grown hg h.below.size fun q hq => (h.way.lt q hq).1) h.ge _ _ _ _).setCell (p := ⟨b, 6, none⟩) h.ge _⟩
  have := ((((at1.set 0 (.int .i64 s.epoch)).set 1 (.int .i64 s.base)).set 2 v).set 3 (.int .i64 s.timer)).set 6 u
  simpa using this
theorem push_cases {ep : Int} {N : Nat} {p : Wy} (h : Inv ep N p) (hN : N ≤ 1000) {cb : ByteArray} (hc : cb.size ≤ 100) : ((pushO p.s cb).2.2 = 3 ∧ p.s.bodies.length = 8) ∨ (pushO p.s cb).2.2 = 0 := by
  have hr := h.right
  have hs := h.sum; have hf := h.few; have hb0 := h.base0
  unfold pushO
  rw [if_neg (by rw [hr]; simp), if_neg (by omega)]
  by_cases h8 : p.s.bodies.length = 8 ∨ p.s.base + p.s.bodies.length = 1073741824
  · left
    rw [if_pos h8]
    exact ⟨rfl, by omega⟩
  · right
    rw [if_neg h8]
theorem keepLQ {a c : World} (hb : Below a.heap.size a c) : ∀ k C, Lies k C 26 a → Lies k C 26 c := fun k C h => h.below hb
theorem ckPushO (s : Sn) (n : Nat) (A : Option Addr) (c : Nat) (body : ByteArray) (s' : Sn) (x : Pk) (z : Int) (n' : Nat) (ho : (s', x, z) = pushO s body) (w : World) (hn : n = s.bodies.length) (hn' : n' = s'.bodies.length) (hl : n ≤ 4611686018427387904) (h : Row w A (bcs s.bodies)) :
    Calls Try.prog 9 #[.agg #[.int .i64 s.epoch, .int .i64 s.base, .slice A n c, .int .i64 s.timer], .string body] w (fun e w' => ∃ A c, e = .returned (.tuple #[.agg #[.int .i64 s'.epoch, .int .i64 s'.base, .slice A n' c, .int .i64 s'.timer], .agg #[.int .i64 x.epoch, .int .i64 x.no, .string x.body], .int .i64 z]) ∧
      w'.ownsRow w.heap.size 9 1 (.slice A n' c) n' (bcs s'.bodies) ∧ Below w.heap.size w w') := by
  obtain ⟨ep, ba, bs, ti⟩ := s
  subst hn'
  exact ckPush ep ba ti bs n hn hl A c body _ ho w h
set_option maxRecDepth 100000 in
set_option maxHeartbeats 4000000 in
theorem push12 (b ka : Nat) (what which : Int) (body cb : ByteArray) (p : Wy) (t : Sn) (x : Pk) (z : Int) (tn bm bc : Nat) (BA : Option Addr) (W1 : World) {u4 u5 u9 u10 u11 u12 u13 u14 u15 u16 u17 u18 u19 u20 u21 u22 u23 u24 u25 u26 u27 u28 u29 u30 u31 u32 u33 u34 u35 u36 u37 u38 u39 u40 u41 u42 u43 u44 u45 u46 u47 u48 u49 u50 u51 u52 u53 u54 u55 u56 u57 u58 u59 u60 u61 u62 u63 u64 u65 u66 u67 u68 u69 u70 u71 u72 u73 u74 u75 u76 u77 u78 u79 u80 u81 u82 u83 u84 u85 u86 u87 u88 u89 u90 u91 u92 u93 u94 u95 u96 u97 u98 u99 u100 u101 u102 u103 u104 u105 u106 u107 u108 u109 u110 u111 u112 u113 u114 u115 u116 u117 u118 u119 u120 u121 u122 u123 u124 u125 u126 u127 u128 u129 u130 u131 u132 u133 u134 u135 u136 u137 u138 u139 u140 u141 u142 u143 u144 u145 u146 u147 u148 u149 u150 u151 u152 u153 u154 u155 u156 u157 u158 u159 u160 u161 u162 u163 u164 u165 u166 u167 u168 u169 u170 u171 u172 u173 u174 u175 u176 u177 u178 u179 u180 u181 u182 u183 u184 u185 u186 u187 u188 u189 u190 u191 u192 u193 u194 u195 u196 u197 u198 u199 u200 u201 u202 u203 u204 u205 u206 u207 u208 u209 u210 u211 u212 u213 u214 u215 u216 u217 u218 u219 u220 u221 u222 u223 u224 u225 u226 u227 u228 u229 u230 u231 u232 u233 u234 u235 u236 u237 u238 u239 u240 u241 u242 u243 u244 u245 u246 u247 u248 u249 u250 u251 u252 u253 u254 u255 u256 u257 u258 u259 u260 u261 u262 u263 : Value} {Q : Exit → Act → World → Prop}
    (S0 : W1.drew.cell? ⟨b, 0, none⟩ = some (.int .i64 p.s.epoch) ∧ W1.drew.cell? ⟨b, 1, none⟩ = some (.int .i64 p.s.base) ∧ W1.drew.cell? ⟨b, 2, none⟩ = some (.slice BA bm bc) ∧ W1.drew.cell? ⟨b, 3, none⟩ = some (.int .i64 p.s.timer) ∧ W1.drew.cell? ⟨ka, 2, none⟩ = some (.string cb) ∧ Below W1.heap.size W1 W1.drew) (HK : ka < W1.heap.size ∧ b < W1.heap.size)
    (HT : ∀ w', w'.cell? ⟨b, 0, none⟩ = some (.int .i64 p.s.epoch) ∧ w'.cell? ⟨b, 1, none⟩ = some (.int .i64 p.s.base) ∧ w'.cell? ⟨b, 2, none⟩ = some (.slice BA bm bc) ∧ w'.cell? ⟨b, 3, none⟩ = some (.int .i64 p.s.timer) ∧ w'.cell? ⟨ka, 2, none⟩ = some (.string cb) ∧ Below W1.heap.size W1 w' → Calls Try.prog 9 #[.agg #[.int .i64 p.s.epoch, .int .i64 p.s.base, .slice BA bm bc, .int .i64 p.s.timer], .string cb] w' (fun e w'' => ∃ A c, e = .returned (.tuple #[.agg #[.int .i64 t.epoch, .int .i64 t.base, .slice A tn c, .int .i64 t.timer], .agg #[.int .i64 x.epoch, .int .i64 x.no, .string x.body], .int .i64 z]) ∧ w''.ownsRow w'.heap.size 9 1 (.slice A tn c) tn (bcs t.bodies) ∧ Below w'.heap.size w' w''))
    (hQ : ∀ (b6 b7 : Nat) (A5 : Option Addr) (c5 : Nat) (wd : World), Lies b6 #[.int .i64 t.epoch, .int .i64 t.base, .slice A5 tn c5, .int .i64 t.timer] 24 wd ∧ Lies b7 #[.int .i64 x.epoch, .int .i64 x.no, .string x.body] 26 wd ∧ wd.ownsRow W1.heap.size 9 1 (.slice A5 tn c5) tn (bcs t.bodies) ∧ Below W1.heap.size W1 wd → Q .normal ⟨#[.pointer (some ⟨b, 0, none⟩), .agg #[.int .i64 what, .int .i64 which, .string body], undef, .pointer (some ⟨ka, 0, none⟩), u4, u5, .pointer (some ⟨b6, 0, none⟩), .pointer (some ⟨b7, 0, none⟩), .int .i64 z, u9, u10, u11, u12, u13, u14, u15, u16, u17, u18, u19, u20, u21, u22, u23, u24, u25, u26, u27, u28, u29, u30, u31, u32, u33, u34, u35, u36, u37, u38, u39, u40, u41, u42, u43, u44, u45, u46, u47, u48, u49, u50, u51, u52, u53, u54, u55, u56, u57, u58, u59, u60, u61, u62, u63, u64, u65, u66, u67, u68, u69, u70, u71, u72, u73, u74, u75, u76, u77, u78, u79, u80, u81, u82, u83, u84, u85, u86, u87, u88, u89, u90, u91, u92, u93, u94, u95, u96, u97, u98, .tuple #[.agg #[.int .i64 t.epoch, .int .i64 t.base, .slice A5 tn c5, .int .i64 t.timer], .agg #[.int .i64 x.epoch, .int .i64 x.no, .string x.body], .int .i64 z], .pointer (some ⟨b, 0, none⟩), .pointer (some ⟨b, 0, none⟩), .pointer (some ⟨b, 0, none⟩), .agg #[.int .i64 p.s.epoch, .int .i64 p.s.base, .slice BA bm bc, .int .i64 p.s.timer], .pointer (some ⟨ka, 2, none⟩), .string cb, .tuple #[.agg #[.int .i64 t.epoch, .int .i64 t.base, .slice A5 tn c5, .int .i64 t.timer], .agg #[.int .i64 x.epoch, .int .i64 x.no, .string x.body], .int .i64 z], .agg #[.int .i64 t.epoch, .int .i64 t.base, .slice A5 tn c5, .int .i64 t.timer], .agg #[.int .i64 x.epoch, .int .i64 x.no, .string x.body], .int .i64 z, u110, u111, u112, u113, u114, u115, u116, u117, u118, u119, u120, u121, u122, u123, u124, u125, u126, u127, u128, u129, u130, u131, u132, u133, u134, u135, u136, u137, u138, u139, u140, u141, u142, u143, u144, u145, u146, u147, u148, u149, u150, u151, u152, u153, u154, u155, u156, u157, u158, u159, u160, u161, u162, u163, u164, u165, u166, u167, u168, u169, u170, u171, u172, u173, u174, u175, u176, u177, u178, u179, u180, u181, u182, u183, u184, u185, u186, u187, u188, u189, u190, u191, u192, u193, u194, u195, u196, u197, u198, u199, u200, u201, u202, u203, u204, u205, u206, u207, u208, u209, u210, u211, u212, u213, u214, u215, u216, u217, u218, u219, u220, u221, u222, u223, u224, u225, u226, u227, u228, u229, u230, u231, u232, u233, u234, u235, u236, u237, u238, u239, u240, u241, u242, u243, u244, u245, u246, u247, u248, u249, u250, u251, u252, u253, u254, u255, u256, u257, u258, u259, u260, u261, u262, u263], []⟩ wd) :
    Code.wp Try.prog (Code.region 12 #[{ dst := some 100, op := Op.move (Operand.tmp 0), type := 48, pos := "law.go:84", after := #[], guard := none }, { dst := some 101, op := Op.nilCheck (Operand.tmp 100), type := 0, pos := "law.go:84", after := #[{ on := 0, ground := Ground.data }], guard := none }, { dst := some 102, op := Op.fieldAddr 51 (Operand.tmp 101) 0, type := 0, pos := "law.go:84", after := #[{ on := 1, ground := Ground.data }], guard := none }, { dst := some 103, op := Op.load 24 (Operand.tmp 102), type := 24, pos := "law.go:84", after := #[{ on := 2, ground := Ground.data }], guard := none }, { dst := some 104, op := Op.fieldAddr 53 (Operand.tmp 3) 2, type := 0, pos := "law.go:84", after := #[], guard := none }, { dst := some 105, op := Op.load 9 (Operand.tmp 104), type := 9, pos := "law.go:84", after := #[{ on := 4, ground := Ground.data }], guard := none }, { dst := some 106, op := Op.call { callee := Callee.value (Operand.func 9), args := #[Operand.tmp 103, Operand.tmp 105], argTypes := #[24, 9] }, type := 28, pos := "law.go:84", after := #[{ on := 3, ground := Ground.data }, { on := 5, ground := Ground.data }], guard := none }, { dst := some 99, op := Op.move (Operand.tmp 106), type := 28, pos := "law.go:84", after := #[{ on := 6, ground := Ground.data }], guard := none }, { dst := some 107, op := Op.extract (Operand.tmp 99) 0, type := 24, pos := "law.go:84", after := #[{ on := 7, ground := Ground.data }], guard := none }, { dst := some 108, op := Op.extract (Operand.tmp 99) 1, type := 26, pos := "law.go:84", after := #[{ on := 7, ground := Ground.data }, { on := 13, ground := Ground.gcOnly Departure.lateStores }], guard := none }, { dst := some 109, op := Op.extract (Operand.tmp 99) 2, type := 27, pos := "law.go:84", after := #[{ on := 7, ground := Ground.data }, { on := 14, ground := Ground.gcOnly Departure.lateStores }], guard := none }, { dst := some 6, op := Op.alloc 24, type := 0, pos := "law.go:84", after := #[], guard := none }, { dst := some 7, op := Op.alloc 26, type := 0, pos := "law.go:84", after := #[], guard := none }, { dst := none, op := Op.store 24 (Operand.tmp 6) (Operand.tmp 107), type := 0, pos := "law.go:84", after := #[{ on := 11, ground := Ground.data }, { on := 8, ground := Ground.data }, { on := 6, ground := Ground.chain }, { on := 0, ground := Ground.phase }, { on := 1, ground := Ground.phase }, { on := 2, ground := Ground.phase }, { on := 3, ground := Ground.phase }, { on := 4, ground := Ground.phase }, { on := 5, ground := Ground.phase }, { on := 6, ground := Ground.phase }, { on := 7, ground := Ground.phase }, { on := 8, ground := Ground.phase }, { on := 9, ground := Ground.textOnly Departure.lateStores }, { on := 10, ground := Ground.textOnly Departure.lateStores }, { on := 11, ground := Ground.phase }, { on := 12, ground := Ground.phase }], guard := none }, { dst := none, op := Op.store 26 (Operand.tmp 7) (Operand.tmp 108), type := 0, pos := "law.go:84", after := #[{ on := 12, ground := Ground.data }, { on := 9, ground := Ground.data }, { on := 13, ground := Ground.chain }, { on := 0, ground := Ground.phase }, { on := 1, ground := Ground.phase }, { on := 2, ground := Ground.phase }, { on := 3, ground := Ground.phase }, { on := 4, ground := Ground.phase }, { on := 5, ground := Ground.phase }, { on := 6, ground := Ground.phase }, { on := 7, ground := Ground.phase }, { on := 8, ground := Ground.phase }, { on := 9, ground := Ground.phase }, { on := 10, ground := Ground.textOnly Departure.lateStores }, { on := 11, ground := Ground.phase }, { on := 12, ground := Ground.phase }, { on := 13, ground := Ground.phase }], guard := none }, { dst := some 8, op := Op.assign (Operand.tmp 109), type := 27, pos := "law.go:84", after := #[{ on := 10, ground := Ground.data }, { on := 14, ground := Ground.chain }, { on := 0, ground := Ground.phase }, { on := 1, ground := Ground.phase }, { on := 2, ground := Ground.phase }, { on := 3, ground := Ground.phase }, { on := 4, ground := Ground.phase }, { on := 5, ground := Ground.phase }, { on := 6, ground := Ground.phase }, { on := 7, ground := Ground.phase }, { on := 8, ground := Ground.phase }, { on := 9, ground := Ground.phase }, { on := 10, ground := Ground.phase }, { on := 11, ground := Ground.phase }, { on := 12, ground := Ground.phase }, { on := 13, ground := Ground.phase }, { on := 14, ground := Ground.phase }], guard := none }] true) Q ⟨#[.pointer (some ⟨b, 0, none⟩), .agg #[.int .i64 what, .int .i64 which, .string body], undef, .pointer (some ⟨ka, 0, none⟩), u4, u5, undef, undef, undef, u9, u10, u11, u12, u13, u14, u15, u16, u17, u18, u19, u20, u21, u22, u23, u24, u25, u26, u27, u28, u29, u30, u31, u32, u33, u34, u35, u36, u37, u38, u39, u40, u41, u42, u43, u44, u45, u46, u47, u48, u49, u50, u51, u52, u53, u54, u55, u56, u57, u58, u59, u60, u61, u62, u63, u64, u65, u66, u67, u68, u69, u70, u71, u72, u73, u74, u75, u76, u77, u78, u79, u80, u81, u82, u83, u84, u85, u86, u87, u88, u89, u90, u91, u92, u93, u94, u95, u96, u97, u98, u99, u100, u101, u102, u103, u104, u105, u106, u107, u108, u109, u110, u111, u112, u113, u114, u115, u116, u117, u118, u119, u120, u121, u122, u123, u124, u125, u126, u127, u128, u129, u130, u131, u132, u133, u134, u135, u136, u137, u138, u139, u140, u141, u142, u143, u144, u145, u146, u147, u148, u149, u150, u151, u152, u153, u154, u155, u156, u157, u158, u159, u160, u161, u162, u163, u164, u165, u166, u167, u168, u169, u170, u171, u172, u173, u174, u175, u176, u177, u178, u179, u180, u181, u182, u183, u184, u185, u186, u187, u188, u189, u190, u191, u192, u193, u194, u195, u196, u197, u198, u199, u200, u201, u202, u203, u204, u205, u206, u207, u208, u209, u210, u211, u212, u213, u214, u215, u216, u217, u218, u219, u220, u221, u222, u223, u224, u225, u226, u227, u228, u229, u230, u231, u232, u233, u234, u235, u236, u237, u238, u239, u240, u241, u242, u243, u244, u245, u246, u247, u248, u249, u250, u251, u252, u253, u254, u255, u256, u257, u258, u259, u260, u261, u262, u263], []⟩ W1 := by
  have HKW := Lib.hid HK
  have HTS := Lib.hid HT
  clear HK HT
  have SH := S0
  refine wp_region_noPanic ?_
  refine wp_region_held_drew (S := fun w' => w'.cell? ⟨b, 0, none⟩ = some (.int .i64 p.s.epoch) ∧ w'.cell? ⟨b, 1, none⟩ = some (.int .i64 p.s.base) ∧ w'.cell? ⟨b, 2, none⟩ = some (.slice BA bm bc) ∧ w'.cell? ⟨b, 3, none⟩ = some (.int .i64 p.s.timer) ∧ w'.cell? ⟨ka, 2, none⟩ = some (.string cb) ∧ Below W1.heap.size W1 w') (by kernel_rfl) S0 (fun hHeld => ?_)
  clear hHeld S0
  obtain ⟨X0, hX⟩ : ∃ X, X = W1.drew := ⟨_, rfl⟩
  rw [← hX] at SH ⊢
  clear hX
  refine wpAnyH_take (i := 0) (oi := { dst := some 100, op := Op.move (Operand.tmp 0), type := 48, pos := "law.go:84", after := #[], guard := none }) (v := ?tv1) rfl (by kernel_rfl) (by kernel_rfl) (by kernel_rfl) (fun _ _ _ h => h) (Or.inl ⟨by rfl, ?ty1⟩) (by assumption) ?tr1
  case ty1 => (intro w9 hSw; (try dsimp only at hSw); go_simp; (try with_reducible rfl))
  simp only [Act.put, List.setIfInBounds_toArray, List.set_cons_zero, List.set_cons_succ]
  refine wpAnyH_take (i := 1) (oi := { dst := some 101, op := Op.nilCheck (Operand.tmp 100), type := 0, pos := "law.go:84", after := #[{ on := 0, ground := Ground.data }], guard := none }) (v := ?tv2) rfl (by kernel_rfl) (by kernel_rfl) (by kernel_rfl) (fun _ _ _ h => h) (Or.inl ⟨by rfl, ?ty2⟩) (by assumption) ?tr2
  case ty2 => (intro w9 hSw; (try dsimp only at hSw); go_simp; (try with_reducible rfl))
  simp only [Act.put, List.setIfInBounds_toArray, List.set_cons_zero, List.set_cons_succ]
  refine wpAnyH_take (i := 2) (oi := { dst := some 102, op := Op.fieldAddr 51 (Operand.tmp 101) 0, type := 0, pos := "law.go:84", after := #[{ on := 1, ground := Ground.data }], guard := none }) (v := ?tv3) rfl (by kernel_rfl) (by kernel_rfl) (by kernel_rfl) (fun _ _ _ h => h) (Or.inl ⟨by rfl, ?ty3⟩) (by assumption) ?tr3
  case ty3 => (intro w9 hSw; (try dsimp only at hSw); go_simp; (try with_reducible rfl))
  simp only [Act.put, List.setIfInBounds_toArray, List.set_cons_zero, List.set_cons_succ]
  refine wpAnyH_take (i := 3) (oi := { dst := some 103, op := Op.load 24 (Operand.tmp 102), type := 24, pos := "law.go:84", after := #[{ on := 2, ground := Ground.data }], guard := none }) (v := ?tv4) rfl (by kernel_rfl) (by kernel_rfl) (by kernel_rfl) (fun _ _ _ h => h) (Or.inl ⟨by rfl, ?ty4⟩) (by assumption) ?tr4
  case ty4 => (intro w9 hSw; (try dsimp only at hSw); go_simp; (try with_reducible rfl))
  simp only [Act.put, List.setIfInBounds_toArray, List.set_cons_zero, List.set_cons_succ]
  refine wpAnyH_take (i := 4) (oi := { dst := some 104, op := Op.fieldAddr 53 (Operand.tmp 3) 2, type := 0, pos := "law.go:84", after := #[], guard := none }) (v := ?tv5) rfl (by kernel_rfl) (by kernel_rfl) (by kernel_rfl) (fun _ _ _ h => h) (Or.inl ⟨by rfl, ?ty5⟩) (by assumption) ?tr5
  case ty5 => (intro w9 hSw; (try dsimp only at hSw); go_simp; (try with_reducible rfl))
  simp only [Act.put, List.setIfInBounds_toArray, List.set_cons_zero, List.set_cons_succ]
  refine wpAnyH_take (i := 5) (oi := { dst := some 105, op := Op.load 9 (Operand.tmp 104), type := 9, pos := "law.go:84", after := #[{ on := 4, ground := Ground.data }], guard := none }) (v := ?tv6) rfl (by kernel_rfl) (by kernel_rfl) (by kernel_rfl) (fun _ _ _ h => h) (Or.inl ⟨by rfl, ?ty6⟩) (by assumption) ?tr6
  case ty6 => (intro w9 hSw; (try dsimp only at hSw); go_simp; (try with_reducible rfl))
  simp only [Act.put, List.setIfInBounds_toArray, List.set_cons_zero, List.set_cons_succ]
  refine wpAnyH_ready (rs := [6, 11, 12]) (by kernel_rfl) (by simp) ?_
  refine AllReadyH.cons (o := { dst := some 106, op := Op.call { callee := Callee.value (Operand.func 9), args := #[Operand.tmp 103, Operand.tmp 105], argTypes := #[24, 9] }, type := 28, pos := "law.go:84", after := #[{ on := 3, ground := Ground.data }, { on := 5, ground := Ground.data }], guard := none }) rfl (fun K hK => ?_) ?_
  · go_simp
    go_at_call 9
    refine (HTS.out _ SH).mono ?_
    rintro e X1 ⟨A5, c5, rfl, ho5, hb5⟩
    have O5 := own_baseL ho5 SH.2.2.2.2.2.size
    have SN := keep12 hb5 SH
    refine hK.out _ _ (SN) (fun hHeld => ?_)
    clear hK K hHeld
    (try simp only [Act.put, List.setIfInBounds_toArray, List.set_cons_zero, List.set_cons_succ])
    clear hb5 ho5 SH
    have SH := SN
    clear SN
    refine wpAnyH_take (i := 7) (oi := { dst := some 99, op := Op.move (Operand.tmp 106), type := 28, pos := "law.go:84", after := #[{ on := 6, ground := Ground.data }], guard := none }) (v := ?tv7) rfl (by kernel_rfl) (by kernel_rfl) (by kernel_rfl) (fun _ _ _ h => h) (Or.inl ⟨by rfl, ?ty7⟩) (by assumption) ?tr7
    case ty7 => (intro w9 hSw; (try dsimp only at hSw); go_simp; (try with_reducible rfl))
    simp only [Act.put, List.setIfInBounds_toArray, List.set_cons_zero, List.set_cons_succ]
    refine wpAnyH_take (i := 8) (oi := { dst := some 107, op := Op.extract (Operand.tmp 99) 0, type := 24, pos := "law.go:84", after := #[{ on := 7, ground := Ground.data }], guard := none }) (v := ?tv8) rfl (by kernel_rfl) (by kernel_rfl) (by kernel_rfl) (fun _ _ _ h => h) (Or.inl ⟨by rfl, ?ty8⟩) (by assumption) ?tr8
    case ty8 => (intro w9 hSw; (try dsimp only at hSw); go_simp; (try with_reducible rfl))
    simp only [Act.put, List.setIfInBounds_toArray, List.set_cons_zero, List.set_cons_succ]
    refine wpAnyH_take (i := 9) (oi := { dst := some 108, op := Op.extract (Operand.tmp 99) 1, type := 26, pos := "law.go:84", after := #[{ on := 7, ground := Ground.data }, { on := 13, ground := Ground.gcOnly Departure.lateStores }], guard := none }) (v := ?tv9) rfl (by kernel_rfl) (by kernel_rfl) (by kernel_rfl) (fun _ _ _ h => h) (Or.inl ⟨by rfl, ?ty9⟩) (by assumption) ?tr9
    case ty9 => (intro w9 hSw; (try dsimp only at hSw); go_simp; (try with_reducible rfl))
    simp only [Act.put, List.setIfInBounds_toArray, List.set_cons_zero, List.set_cons_succ]
    refine wpAnyH_take (i := 10) (oi := { dst := some 109, op := Op.extract (Operand.tmp 99) 2, type := 27, pos := "law.go:84", after := #[{ on := 7, ground := Ground.data }, { on := 14, ground := Ground.gcOnly Departure.lateStores }], guard := none }) (v := ?tv10) rfl (by kernel_rfl) (by kernel_rfl) (by kernel_rfl) (fun _ _ _ h => h) (Or.inl ⟨by rfl, ?ty10⟩) (by assumption) ?tr10
    case ty10 => (intro w9 hSw; (try dsimp only at hSw); go_simp; (try with_reducible rfl))
    simp only [Act.put, List.setIfInBounds_toArray, List.set_cons_zero, List.set_cons_succ]
    refine wpAnyH_ready (rs := [11, 12]) (by kernel_rfl) (by simp) ?_
    refine AllReadyH.cons (o := { dst := some 6, op := Op.alloc 24, type := 0, pos := "law.go:84", after := #[], guard := none }) rfl (fun K hK => ?_) ?_
    · go_simp
      have SN := keep12a (ob := (.cells #[.int .i64 0, .int .i64 0, .slice none 0 0, .int .i64 0] 24)) SH
      have LN := Lies.new X1 #[.int .i64 0, .int .i64 0, .slice none 0 0, .int .i64 0] 24
      refine hK.out _ _ (SN) (fun hHeld => ?_)
      clear hK K hHeld
      (try simp only [Act.put, List.setIfInBounds_toArray, List.set_cons_zero, List.set_cons_succ])
      have hbn := below_al (o := (.cells #[.int .i64 0, .int .i64 0, .slice none 0 0, .int .i64 0] 24)) (Below.refl X1.heap.size X1)
      replace O5 := own_upL O5 hbn
      have hge6 : W1.heap.size ≤ X1.heap.size := SH.2.2.2.2.2.size
      obtain ⟨b6, hbb⟩ : ∃ b, b = X1.heap.size := ⟨_, rfl⟩
      obtain ⟨X2, hX⟩ : ∃ X, X = X1.alloc (.cells #[.int .i64 0, .int .i64 0, .slice none 0 0, .int .i64 0] 24) := ⟨_, rfl⟩
      rw [← hX] at SN LN O5 ⊢
      rw [← hbb] at LN hge6 ⊢
      have L6 := LN
      clear hbn hX hbb SH LN
      have SH := SN
      clear SN
      refine wpAnyH_ready (rs := [12]) (by kernel_rfl) (by simp) ?_
      refine AllReadyH.cons (o := { dst := some 7, op := Op.alloc 26, type := 0, pos := "law.go:84", after := #[], guard := none }) rfl (fun K hK => ?_) ?_
      · go_simp
        have SN := keep12a (ob := (.cells #[.int .i64 0, .int .i64 0, .string ⟨#[]⟩] 26)) SH
        have LN := Lies.new X2 #[.int .i64 0, .int .i64 0, .string ⟨#[]⟩] 26
        refine hK.out _ _ (SN) (fun hHeld => ?_)
        clear hK K hHeld
        (try simp only [Act.put, List.setIfInBounds_toArray, List.set_cons_zero, List.set_cons_succ])
        have hbn := below_al (o := (.cells #[.int .i64 0, .int .i64 0, .string ⟨#[]⟩] 26)) (Below.refl X2.heap.size X2)
        replace L6 := L6.below hbn
        replace O5 := own_upL O5 hbn
        have hge7 : W1.heap.size ≤ X2.heap.size := SH.2.2.2.2.2.size
        obtain ⟨b7, hbb⟩ : ∃ b, b = X2.heap.size := ⟨_, rfl⟩
        obtain ⟨X3, hX⟩ : ∃ X, X = X2.alloc (.cells #[.int .i64 0, .int .i64 0, .string ⟨#[]⟩] 26) := ⟨_, rfl⟩
        rw [← hX] at SN LN L6 O5 ⊢
        rw [← hbb] at LN hge7 ⊢
        have L7 := LN
        clear hbn hX hbb SH LN
        have SH := SN
        clear SN
        have h6b : b6 ≠ b := by have := HKW.out; omega
        have h6k : b6 ≠ ka := by have := HKW.out; omega
        have h7b : b7 ≠ b := by have := HKW.out; omega
        have h7k : b7 ≠ ka := by have := HKW.out; omega
        have h67 : b6 ≠ b7 := fun e => by
          have g1 := L6
          have g2 := L7
          rw [e] at g1
          unfold Lies at g1 g2
          rw [g1] at g2
          simp at g2
        have H6 := Lib.hid L6
        have H7 := Lib.hid L7
        have HO := Lib.hid O5
        have HSH := Lib.hid SH
        have z0 := L6.cell (j := 0) rfl; have z1 := L6.cell (j := 1) rfl; have z2 := L6.cell (j := 2) rfl; have z3 := L6.cell (j := 3) rfl
        have f0 := L6.free 0; have f1 := L6.free 1; have f2 := L6.free 2; have f3 := L6.free 3
        have u0 := L7.cell (j := 0) rfl; have u1 := L7.cell (j := 1) rfl; have u2 := L7.cell (j := 2) rfl
        have v0 := L7.free 0; have v1 := L7.free 1; have v2 := L7.free 2
        clear L6 L7 O5
        refine wpAnyH_ready (rs := [13]) (by kernel_rfl) (by simp) ?_
        refine AllReadyH.cons (o := { dst := none, op := Op.store 24 (Operand.tmp 6) (Operand.tmp 107), type := 0, pos := "law.go:84", after := #[{ on := 11, ground := Ground.data }, { on := 8, ground := Ground.data }, { on := 6, ground := Ground.chain }, { on := 0, ground := Ground.phase }, { on := 1, ground := Ground.phase }, { on := 2, ground := Ground.phase }, { on := 3, ground := Ground.phase }, { on := 4, ground := Ground.phase }, { on := 5, ground := Ground.phase }, { on := 6, ground := Ground.phase }, { on := 7, ground := Ground.phase }, { on := 8, ground := Ground.phase }, { on := 9, ground := Ground.textOnly Departure.lateStores }, { on := 10, ground := Ground.textOnly Departure.lateStores }, { on := 11, ground := Ground.phase }, { on := 12, ground := Ground.phase }], guard := none }) rfl (fun K hK => ?_) ?_
        · go_simp
          refine hK.out _ _ (keep12s h6b h6k hge6 HSH.out) (fun hHeld => ?_)
          clear hK K hHeld
          (try simp only [Act.put, List.setIfInBounds_toArray, List.set_cons_zero, List.set_cons_succ])
          have S2 := keep12s (v0 := .int .i64 t.epoch) (v1 := .int .i64 t.base) (v2 := .slice A5 tn c5) (v3 := .int .i64 t.timer) h6b h6k hge6 HSH.out
          clear SH
          refine wpAnyH_ready (rs := [14]) (by kernel_rfl) (by simp) ?_
          refine AllReadyH.cons (o := { dst := none, op := Op.store 26 (Operand.tmp 7) (Operand.tmp 108), type := 0, pos := "law.go:84", after := #[{ on := 12, ground := Ground.data }, { on := 9, ground := Ground.data }, { on := 13, ground := Ground.chain }, { on := 0, ground := Ground.phase }, { on := 1, ground := Ground.phase }, { on := 2, ground := Ground.phase }, { on := 3, ground := Ground.phase }, { on := 4, ground := Ground.phase }, { on := 5, ground := Ground.phase }, { on := 6, ground := Ground.phase }, { on := 7, ground := Ground.phase }, { on := 8, ground := Ground.phase }, { on := 9, ground := Ground.phase }, { on := 10, ground := Ground.textOnly Departure.lateStores }, { on := 11, ground := Ground.phase }, { on := 12, ground := Ground.phase }, { on := 13, ground := Ground.phase }], guard := none }) rfl (fun K hK => ?_) ?_
          · go_simp
            refine hK.out _ _ (keep12t h7b h7k hge7 (keep12s h6b h6k hge6 HSH.out)) (fun hHeld => ?_)
            clear hK K hHeld
            (try simp only [Act.put, List.setIfInBounds_toArray, List.set_cons_zero, List.set_cons_succ])
            have S3 := keep12t (v0 := .int .i64 x.epoch) (v1 := .int .i64 x.no) (v2 := .string x.body) h7b h7k hge7 S2
            clear S2 z0 z1 z2 z3 f0 f1 f2 f3 u0 u1 u2 v0 v1 v2
            refine wpAnyH_take (i := 15) (oi := { dst := some 8, op := Op.assign (Operand.tmp 109), type := 27, pos := "law.go:84", after := #[{ on := 10, ground := Ground.data }, { on := 14, ground := Ground.chain }, { on := 0, ground := Ground.phase }, { on := 1, ground := Ground.phase }, { on := 2, ground := Ground.phase }, { on := 3, ground := Ground.phase }, { on := 4, ground := Ground.phase }, { on := 5, ground := Ground.phase }, { on := 6, ground := Ground.phase }, { on := 7, ground := Ground.phase }, { on := 8, ground := Ground.phase }, { on := 9, ground := Ground.phase }, { on := 10, ground := Ground.phase }, { on := 11, ground := Ground.phase }, { on := 12, ground := Ground.phase }, { on := 13, ground := Ground.phase }, { on := 14, ground := Ground.phase }], guard := none }) (v := ?tv11) rfl (by kernel_rfl) (by kernel_rfl) (by kernel_rfl) (fun _ _ _ h => h) (Or.inl ⟨by rfl, ?ty11⟩) (by assumption) ?tr11
            case ty11 => (intro w9 hSw; (try dsimp only at hSw); go_simp; (try with_reducible rfl))
            simp only [Act.put, List.setIfInBounds_toArray, List.set_cons_zero, List.set_cons_succ]
            refine wpAnyH_done (by kernel_rfl) ?_ _
            refine NoPanic.normal ?_
            clear S3
            exact hQ b6 b7 A5 c5 _ ⟨(((Gen.Lies.set4 H6.out _ _ _ _).other h67 _ _).other h67 _ _).other h67 _ _, lies_setP ((((H7.out.other (fun e => h67 e.symm) _ _).other (fun e => h67 e.symm) _ _).other (fun e => h67 e.symm) _ _).other (fun e => h67 e.symm) _ _) _ _ _,
              own_set3L (own_set4C HO.out (own_blk HO.out H6.out str_sn) _ _ _ _) (own_blk HO.out H7.out str_pk) _ _ _, ((Gen.below_set4 HSH.out.2.2.2.2.2 hge6 _ _ _ _).setCell (p := ⟨b7, 0, none⟩) hge7 _ |>.setCell (p := ⟨b7, 1, none⟩) hge7 _).setCell (p := ⟨b7, 2, none⟩) hge7 _⟩
          · exact AllReadyH.nil
        · exact AllReadyH.nil
      exact AllReadyH.nil
    refine AllReadyH.cons (o := { dst := some 7, op := Op.alloc 26, type := 0, pos := "law.go:84", after := #[], guard := none }) rfl (fun K hK => ?_) ?_
    · go_simp
      have SN := keep12a (ob := (.cells #[.int .i64 0, .int .i64 0, .string ⟨#[]⟩] 26)) SH
      have LN := Lies.new X1 #[.int .i64 0, .int .i64 0, .string ⟨#[]⟩] 26
      refine hK.out _ _ (SN) (fun hHeld => ?_)
      clear hK K hHeld
      (try simp only [Act.put, List.setIfInBounds_toArray, List.set_cons_zero, List.set_cons_succ])
      have hbn := below_al (o := (.cells #[.int .i64 0, .int .i64 0, .string ⟨#[]⟩] 26)) (Below.refl X1.heap.size X1)
      replace O5 := own_upL O5 hbn
      have hge7 : W1.heap.size ≤ X1.heap.size := SH.2.2.2.2.2.size
      obtain ⟨b7, hbb⟩ : ∃ b, b = X1.heap.size := ⟨_, rfl⟩
      obtain ⟨X4, hX⟩ : ∃ X, X = X1.alloc (.cells #[.int .i64 0, .int .i64 0, .string ⟨#[]⟩] 26) := ⟨_, rfl⟩
      rw [← hX] at SN LN O5 ⊢
      rw [← hbb] at LN hge7 ⊢
      have L7 := LN
      clear hbn hX hbb SH LN
      have SH := SN
      clear SN
      refine wpAnyH_ready (rs := [11]) (by kernel_rfl) (by simp) ?_
      refine AllReadyH.cons (o := { dst := some 6, op := Op.alloc 24, type := 0, pos := "law.go:84", after := #[], guard := none }) rfl (fun K hK => ?_) ?_
      · go_simp
        have SN := keep12a (ob := (.cells #[.int .i64 0, .int .i64 0, .slice none 0 0, .int .i64 0] 24)) SH
        have LN := Lies.new X4 #[.int .i64 0, .int .i64 0, .slice none 0 0, .int .i64 0] 24
        refine hK.out _ _ (SN) (fun hHeld => ?_)
        clear hK K hHeld
        (try simp only [Act.put, List.setIfInBounds_toArray, List.set_cons_zero, List.set_cons_succ])
        have hbn := below_al (o := (.cells #[.int .i64 0, .int .i64 0, .slice none 0 0, .int .i64 0] 24)) (Below.refl X4.heap.size X4)
        replace L7 := L7.below hbn
        replace O5 := own_upL O5 hbn
        have hge6 : W1.heap.size ≤ X4.heap.size := SH.2.2.2.2.2.size
        obtain ⟨b6, hbb⟩ : ∃ b, b = X4.heap.size := ⟨_, rfl⟩
        obtain ⟨X5, hX⟩ : ∃ X, X = X4.alloc (.cells #[.int .i64 0, .int .i64 0, .slice none 0 0, .int .i64 0] 24) := ⟨_, rfl⟩
        rw [← hX] at SN LN L7 O5 ⊢
        rw [← hbb] at LN hge6 ⊢
        have L6 := LN
        clear hbn hX hbb SH LN
        have SH := SN
        clear SN
        have h6b : b6 ≠ b := by have := HKW.out; omega
        have h6k : b6 ≠ ka := by have := HKW.out; omega
        have h7b : b7 ≠ b := by have := HKW.out; omega
        have h7k : b7 ≠ ka := by have := HKW.out; omega
        have h67 : b6 ≠ b7 := fun e => by
          have g1 := L6
          have g2 := L7
          rw [e] at g1
          unfold Lies at g1 g2
          rw [g1] at g2
          simp at g2
        have H6 := Lib.hid L6
        have H7 := Lib.hid L7
        have HO := Lib.hid O5
        have HSH := Lib.hid SH
        have z0 := L6.cell (j := 0) rfl; have z1 := L6.cell (j := 1) rfl; have z2 := L6.cell (j := 2) rfl; have z3 := L6.cell (j := 3) rfl
        have f0 := L6.free 0; have f1 := L6.free 1; have f2 := L6.free 2; have f3 := L6.free 3
        have u0 := L7.cell (j := 0) rfl; have u1 := L7.cell (j := 1) rfl; have u2 := L7.cell (j := 2) rfl
        have v0 := L7.free 0; have v1 := L7.free 1; have v2 := L7.free 2
        clear L6 L7 O5
        refine wpAnyH_ready (rs := [13]) (by kernel_rfl) (by simp) ?_
        refine AllReadyH.cons (o := { dst := none, op := Op.store 24 (Operand.tmp 6) (Operand.tmp 107), type := 0, pos := "law.go:84", after := #[{ on := 11, ground := Ground.data }, { on := 8, ground := Ground.data }, { on := 6, ground := Ground.chain }, { on := 0, ground := Ground.phase }, { on := 1, ground := Ground.phase }, { on := 2, ground := Ground.phase }, { on := 3, ground := Ground.phase }, { on := 4, ground := Ground.phase }, { on := 5, ground := Ground.phase }, { on := 6, ground := Ground.phase }, { on := 7, ground := Ground.phase }, { on := 8, ground := Ground.phase }, { on := 9, ground := Ground.textOnly Departure.lateStores }, { on := 10, ground := Ground.textOnly Departure.lateStores }, { on := 11, ground := Ground.phase }, { on := 12, ground := Ground.phase }], guard := none }) rfl (fun K hK => ?_) ?_
        · go_simp
          refine hK.out _ _ (keep12s h6b h6k hge6 HSH.out) (fun hHeld => ?_)
          clear hK K hHeld
          (try simp only [Act.put, List.setIfInBounds_toArray, List.set_cons_zero, List.set_cons_succ])
          have S2 := keep12s (v0 := .int .i64 t.epoch) (v1 := .int .i64 t.base) (v2 := .slice A5 tn c5) (v3 := .int .i64 t.timer) h6b h6k hge6 HSH.out
          clear SH
          refine wpAnyH_ready (rs := [14]) (by kernel_rfl) (by simp) ?_
          refine AllReadyH.cons (o := { dst := none, op := Op.store 26 (Operand.tmp 7) (Operand.tmp 108), type := 0, pos := "law.go:84", after := #[{ on := 12, ground := Ground.data }, { on := 9, ground := Ground.data }, { on := 13, ground := Ground.chain }, { on := 0, ground := Ground.phase }, { on := 1, ground := Ground.phase }, { on := 2, ground := Ground.phase }, { on := 3, ground := Ground.phase }, { on := 4, ground := Ground.phase }, { on := 5, ground := Ground.phase }, { on := 6, ground := Ground.phase }, { on := 7, ground := Ground.phase }, { on := 8, ground := Ground.phase }, { on := 9, ground := Ground.phase }, { on := 10, ground := Ground.textOnly Departure.lateStores }, { on := 11, ground := Ground.phase }, { on := 12, ground := Ground.phase }, { on := 13, ground := Ground.phase }], guard := none }) rfl (fun K hK => ?_) ?_
          · go_simp
            refine hK.out _ _ (keep12t h7b h7k hge7 (keep12s h6b h6k hge6 HSH.out)) (fun hHeld => ?_)
            clear hK K hHeld
            (try simp only [Act.put, List.setIfInBounds_toArray, List.set_cons_zero, List.set_cons_succ])
            have S3 := keep12t (v0 := .int .i64 x.epoch) (v1 := .int .i64 x.no) (v2 := .string x.body) h7b h7k hge7 S2
            clear S2 z0 z1 z2 z3 f0 f1 f2 f3 u0 u1 u2 v0 v1 v2
            refine wpAnyH_take (i := 15) (oi := { dst := some 8, op := Op.assign (Operand.tmp 109), type := 27, pos := "law.go:84", after := #[{ on := 10, ground := Ground.data }, { on := 14, ground := Ground.chain }, { on := 0, ground := Ground.phase }, { on := 1, ground := Ground.phase }, { on := 2, ground := Ground.phase }, { on := 3, ground := Ground.phase }, { on := 4, ground := Ground.phase }, { on := 5, ground := Ground.phase }, { on := 6, ground := Ground.phase }, { on := 7, ground := Ground.phase }, { on := 8, ground := Ground.phase }, { on := 9, ground := Ground.phase }, { on := 10, ground := Ground.phase }, { on := 11, ground := Ground.phase }, { on := 12, ground := Ground.phase }, { on := 13, ground := Ground.phase }, { on := 14, ground := Ground.phase }], guard := none }) (v := ?tv12) rfl (by kernel_rfl) (by kernel_rfl) (by kernel_rfl) (fun _ _ _ h => h) (Or.inl ⟨by rfl, ?ty12⟩) (by assumption) ?tr12
            case ty12 => (intro w9 hSw; (try dsimp only at hSw); go_simp; (try with_reducible rfl))
            simp only [Act.put, List.setIfInBounds_toArray, List.set_cons_zero, List.set_cons_succ]
            refine wpAnyH_done (by kernel_rfl) ?_ _
            refine NoPanic.normal ?_
            clear S3
            exact hQ b6 b7 A5 c5 _ ⟨(((Gen.Lies.set4 H6.out _ _ _ _).other h67 _ _).other h67 _ _).other h67 _ _, lies_setP ((((H7.out.other (fun e => h67 e.symm) _ _).other (fun e => h67 e.symm) _ _).other (fun e => h67 e.symm) _ _).other (fun e => h67 e.symm) _ _) _ _ _,
              own_set3L (own_set4C HO.out (own_blk HO.out H6.out str_sn) _ _ _ _) (own_blk HO.out H7.out str_pk) _ _ _, ((Gen.below_set4 HSH.out.2.2.2.2.2 hge6 _ _ _ _).setCell (p := ⟨b7, 0, none⟩) hge7 _ |>.setCell (p := ⟨b7, 1, none⟩) hge7 _).setCell (p := ⟨b7, 2, none⟩) hge7 _⟩
          · exact AllReadyH.nil
        · exact AllReadyH.nil
      exact AllReadyH.nil
    exact AllReadyH.nil
  refine AllReadyH.cons (o := { dst := some 6, op := Op.alloc 24, type := 0, pos := "law.go:84", after := #[], guard := none }) rfl (fun K hK => ?_) ?_
  · go_simp
    have SN := keep12a (ob := (.cells #[.int .i64 0, .int .i64 0, .slice none 0 0, .int .i64 0] 24)) SH
    have LN := Lies.new X0 #[.int .i64 0, .int .i64 0, .slice none 0 0, .int .i64 0] 24
    refine hK.out _ _ (SN) (fun hHeld => ?_)
    clear hK K hHeld
    (try simp only [Act.put, List.setIfInBounds_toArray, List.set_cons_zero, List.set_cons_succ])
    have hbn := below_al (o := (.cells #[.int .i64 0, .int .i64 0, .slice none 0 0, .int .i64 0] 24)) (Below.refl X0.heap.size X0)
    have hge6 : W1.heap.size ≤ X0.heap.size := SH.2.2.2.2.2.size
    obtain ⟨b6, hbb⟩ : ∃ b, b = X0.heap.size := ⟨_, rfl⟩
    obtain ⟨X6, hX⟩ : ∃ X, X = X0.alloc (.cells #[.int .i64 0, .int .i64 0, .slice none 0 0, .int .i64 0] 24) := ⟨_, rfl⟩
    rw [← hX] at SN LN ⊢
    rw [← hbb] at LN hge6 ⊢
    have L6 := LN
    clear hbn hX hbb SH LN
    have SH := SN
    clear SN
    refine wpAnyH_ready (rs := [6, 12]) (by kernel_rfl) (by simp) ?_
    refine AllReadyH.cons (o := { dst := some 106, op := Op.call { callee := Callee.value (Operand.func 9), args := #[Operand.tmp 103, Operand.tmp 105], argTypes := #[24, 9] }, type := 28, pos := "law.go:84", after := #[{ on := 3, ground := Ground.data }, { on := 5, ground := Ground.data }], guard := none }) rfl (fun K hK => ?_) ?_
    · go_simp
      go_at_call 9
      refine (HTS.out _ SH).mono ?_
      rintro e X7 ⟨A5, c5, rfl, ho5, hb5⟩
      have O5 := own_baseL ho5 SH.2.2.2.2.2.size
      have SN := keep12 hb5 SH
      replace L6 := L6.below hb5
      refine hK.out _ _ (SN) (fun hHeld => ?_)
      clear hK K hHeld
      (try simp only [Act.put, List.setIfInBounds_toArray, List.set_cons_zero, List.set_cons_succ])
      clear hb5 ho5 SH
      have SH := SN
      clear SN
      refine wpAnyH_take (i := 7) (oi := { dst := some 99, op := Op.move (Operand.tmp 106), type := 28, pos := "law.go:84", after := #[{ on := 6, ground := Ground.data }], guard := none }) (v := ?tv13) rfl (by kernel_rfl) (by kernel_rfl) (by kernel_rfl) (fun _ _ _ h => h) (Or.inl ⟨by rfl, ?ty13⟩) (by assumption) ?tr13
      case ty13 => (intro w9 hSw; (try dsimp only at hSw); go_simp; (try with_reducible rfl))
      simp only [Act.put, List.setIfInBounds_toArray, List.set_cons_zero, List.set_cons_succ]
      refine wpAnyH_take (i := 8) (oi := { dst := some 107, op := Op.extract (Operand.tmp 99) 0, type := 24, pos := "law.go:84", after := #[{ on := 7, ground := Ground.data }], guard := none }) (v := ?tv14) rfl (by kernel_rfl) (by kernel_rfl) (by kernel_rfl) (fun _ _ _ h => h) (Or.inl ⟨by rfl, ?ty14⟩) (by assumption) ?tr14
      case ty14 => (intro w9 hSw; (try dsimp only at hSw); go_simp; (try with_reducible rfl))
      simp only [Act.put, List.setIfInBounds_toArray, List.set_cons_zero, List.set_cons_succ]
      refine wpAnyH_take (i := 9) (oi := { dst := some 108, op := Op.extract (Operand.tmp 99) 1, type := 26, pos := "law.go:84", after := #[{ on := 7, ground := Ground.data }, { on := 13, ground := Ground.gcOnly Departure.lateStores }], guard := none }) (v := ?tv15) rfl (by kernel_rfl) (by kernel_rfl) (by kernel_rfl) (fun _ _ _ h => h) (Or.inl ⟨by rfl, ?ty15⟩) (by assumption) ?tr15
      case ty15 => (intro w9 hSw; (try dsimp only at hSw); go_simp; (try with_reducible rfl))
      simp only [Act.put, List.setIfInBounds_toArray, List.set_cons_zero, List.set_cons_succ]
      refine wpAnyH_take (i := 10) (oi := { dst := some 109, op := Op.extract (Operand.tmp 99) 2, type := 27, pos := "law.go:84", after := #[{ on := 7, ground := Ground.data }, { on := 14, ground := Ground.gcOnly Departure.lateStores }], guard := none }) (v := ?tv16) rfl (by kernel_rfl) (by kernel_rfl) (by kernel_rfl) (fun _ _ _ h => h) (Or.inl ⟨by rfl, ?ty16⟩) (by assumption) ?tr16
      case ty16 => (intro w9 hSw; (try dsimp only at hSw); go_simp; (try with_reducible rfl))
      simp only [Act.put, List.setIfInBounds_toArray, List.set_cons_zero, List.set_cons_succ]
      refine wpAnyH_ready (rs := [12]) (by kernel_rfl) (by simp) ?_
      refine AllReadyH.cons (o := { dst := some 7, op := Op.alloc 26, type := 0, pos := "law.go:84", after := #[], guard := none }) rfl (fun K hK => ?_) ?_
      · go_simp
        have SN := keep12a (ob := (.cells #[.int .i64 0, .int .i64 0, .string ⟨#[]⟩] 26)) SH
        have LN := Lies.new X7 #[.int .i64 0, .int .i64 0, .string ⟨#[]⟩] 26
        refine hK.out _ _ (SN) (fun hHeld => ?_)
        clear hK K hHeld
        (try simp only [Act.put, List.setIfInBounds_toArray, List.set_cons_zero, List.set_cons_succ])
        have hbn := below_al (o := (.cells #[.int .i64 0, .int .i64 0, .string ⟨#[]⟩] 26)) (Below.refl X7.heap.size X7)
        replace L6 := L6.below hbn
        replace O5 := own_upL O5 hbn
        have hge7 : W1.heap.size ≤ X7.heap.size := SH.2.2.2.2.2.size
        obtain ⟨b7, hbb⟩ : ∃ b, b = X7.heap.size := ⟨_, rfl⟩
        obtain ⟨X8, hX⟩ : ∃ X, X = X7.alloc (.cells #[.int .i64 0, .int .i64 0, .string ⟨#[]⟩] 26) := ⟨_, rfl⟩
        rw [← hX] at SN LN L6 O5 ⊢
        rw [← hbb] at LN hge7 ⊢
        have L7 := LN
        clear hbn hX hbb SH LN
        have SH := SN
        clear SN
        have h6b : b6 ≠ b := by have := HKW.out; omega
        have h6k : b6 ≠ ka := by have := HKW.out; omega
        have h7b : b7 ≠ b := by have := HKW.out; omega
        have h7k : b7 ≠ ka := by have := HKW.out; omega
        have h67 : b6 ≠ b7 := fun e => by
          have g1 := L6
          have g2 := L7
          rw [e] at g1
          unfold Lies at g1 g2
          rw [g1] at g2
          simp at g2
        have H6 := Lib.hid L6
        have H7 := Lib.hid L7
        have HO := Lib.hid O5
        have HSH := Lib.hid SH
        have z0 := L6.cell (j := 0) rfl; have z1 := L6.cell (j := 1) rfl; have z2 := L6.cell (j := 2) rfl; have z3 := L6.cell (j := 3) rfl
        have f0 := L6.free 0; have f1 := L6.free 1; have f2 := L6.free 2; have f3 := L6.free 3
        have u0 := L7.cell (j := 0) rfl; have u1 := L7.cell (j := 1) rfl; have u2 := L7.cell (j := 2) rfl
        have v0 := L7.free 0; have v1 := L7.free 1; have v2 := L7.free 2
        clear L6 L7 O5
        refine wpAnyH_ready (rs := [13]) (by kernel_rfl) (by simp) ?_
        refine AllReadyH.cons (o := { dst := none, op := Op.store 24 (Operand.tmp 6) (Operand.tmp 107), type := 0, pos := "law.go:84", after := #[{ on := 11, ground := Ground.data }, { on := 8, ground := Ground.data }, { on := 6, ground := Ground.chain }, { on := 0, ground := Ground.phase }, { on := 1, ground := Ground.phase }, { on := 2, ground := Ground.phase }, { on := 3, ground := Ground.phase }, { on := 4, ground := Ground.phase }, { on := 5, ground := Ground.phase }, { on := 6, ground := Ground.phase }, { on := 7, ground := Ground.phase }, { on := 8, ground := Ground.phase }, { on := 9, ground := Ground.textOnly Departure.lateStores }, { on := 10, ground := Ground.textOnly Departure.lateStores }, { on := 11, ground := Ground.phase }, { on := 12, ground := Ground.phase }], guard := none }) rfl (fun K hK => ?_) ?_
        · go_simp
          refine hK.out _ _ (keep12s h6b h6k hge6 HSH.out) (fun hHeld => ?_)
          clear hK K hHeld
          (try simp only [Act.put, List.setIfInBounds_toArray, List.set_cons_zero, List.set_cons_succ])
          have S2 := keep12s (v0 := .int .i64 t.epoch) (v1 := .int .i64 t.base) (v2 := .slice A5 tn c5) (v3 := .int .i64 t.timer) h6b h6k hge6 HSH.out
          clear SH
          refine wpAnyH_ready (rs := [14]) (by kernel_rfl) (by simp) ?_
          refine AllReadyH.cons (o := { dst := none, op := Op.store 26 (Operand.tmp 7) (Operand.tmp 108), type := 0, pos := "law.go:84", after := #[{ on := 12, ground := Ground.data }, { on := 9, ground := Ground.data }, { on := 13, ground := Ground.chain }, { on := 0, ground := Ground.phase }, { on := 1, ground := Ground.phase }, { on := 2, ground := Ground.phase }, { on := 3, ground := Ground.phase }, { on := 4, ground := Ground.phase }, { on := 5, ground := Ground.phase }, { on := 6, ground := Ground.phase }, { on := 7, ground := Ground.phase }, { on := 8, ground := Ground.phase }, { on := 9, ground := Ground.phase }, { on := 10, ground := Ground.textOnly Departure.lateStores }, { on := 11, ground := Ground.phase }, { on := 12, ground := Ground.phase }, { on := 13, ground := Ground.phase }], guard := none }) rfl (fun K hK => ?_) ?_
          · go_simp
            refine hK.out _ _ (keep12t h7b h7k hge7 (keep12s h6b h6k hge6 HSH.out)) (fun hHeld => ?_)
            clear hK K hHeld
            (try simp only [Act.put, List.setIfInBounds_toArray, List.set_cons_zero, List.set_cons_succ])
            have S3 := keep12t (v0 := .int .i64 x.epoch) (v1 := .int .i64 x.no) (v2 := .string x.body) h7b h7k hge7 S2
            clear S2 z0 z1 z2 z3 f0 f1 f2 f3 u0 u1 u2 v0 v1 v2
            refine wpAnyH_take (i := 15) (oi := { dst := some 8, op := Op.assign (Operand.tmp 109), type := 27, pos := "law.go:84", after := #[{ on := 10, ground := Ground.data }, { on := 14, ground := Ground.chain }, { on := 0, ground := Ground.phase }, { on := 1, ground := Ground.phase }, { on := 2, ground := Ground.phase }, { on := 3, ground := Ground.phase }, { on := 4, ground := Ground.phase }, { on := 5, ground := Ground.phase }, { on := 6, ground := Ground.phase }, { on := 7, ground := Ground.phase }, { on := 8, ground := Ground.phase }, { on := 9, ground := Ground.phase }, { on := 10, ground := Ground.phase }, { on := 11, ground := Ground.phase }, { on := 12, ground := Ground.phase }, { on := 13, ground := Ground.phase }, { on := 14, ground := Ground.phase }], guard := none }) (v := ?tv17) rfl (by kernel_rfl) (by kernel_rfl) (by kernel_rfl) (fun _ _ _ h => h) (Or.inl ⟨by rfl, ?ty17⟩) (by assumption) ?tr17
            case ty17 => (intro w9 hSw; (try dsimp only at hSw); go_simp; (try with_reducible rfl))
            simp only [Act.put, List.setIfInBounds_toArray, List.set_cons_zero, List.set_cons_succ]
            refine wpAnyH_done (by kernel_rfl) ?_ _
            refine NoPanic.normal ?_
            clear S3
            exact hQ b6 b7 A5 c5 _ ⟨(((Gen.Lies.set4 H6.out _ _ _ _).other h67 _ _).other h67 _ _).other h67 _ _, lies_setP ((((H7.out.other (fun e => h67 e.symm) _ _).other (fun e => h67 e.symm) _ _).other (fun e => h67 e.symm) _ _).other (fun e => h67 e.symm) _ _) _ _ _,
              own_set3L (own_set4C HO.out (own_blk HO.out H6.out str_sn) _ _ _ _) (own_blk HO.out H7.out str_pk) _ _ _, ((Gen.below_set4 HSH.out.2.2.2.2.2 hge6 _ _ _ _).setCell (p := ⟨b7, 0, none⟩) hge7 _ |>.setCell (p := ⟨b7, 1, none⟩) hge7 _).setCell (p := ⟨b7, 2, none⟩) hge7 _⟩
          · exact AllReadyH.nil
        · exact AllReadyH.nil
      exact AllReadyH.nil
    refine AllReadyH.cons (o := { dst := some 7, op := Op.alloc 26, type := 0, pos := "law.go:84", after := #[], guard := none }) rfl (fun K hK => ?_) ?_
    · go_simp
      have SN := keep12a (ob := (.cells #[.int .i64 0, .int .i64 0, .string ⟨#[]⟩] 26)) SH
      have LN := Lies.new X6 #[.int .i64 0, .int .i64 0, .string ⟨#[]⟩] 26
      refine hK.out _ _ (SN) (fun hHeld => ?_)
      clear hK K hHeld
      (try simp only [Act.put, List.setIfInBounds_toArray, List.set_cons_zero, List.set_cons_succ])
      have hbn := below_al (o := (.cells #[.int .i64 0, .int .i64 0, .string ⟨#[]⟩] 26)) (Below.refl X6.heap.size X6)
      replace L6 := L6.below hbn
      have hge7 : W1.heap.size ≤ X6.heap.size := SH.2.2.2.2.2.size
      obtain ⟨b7, hbb⟩ : ∃ b, b = X6.heap.size := ⟨_, rfl⟩
      obtain ⟨X9, hX⟩ : ∃ X, X = X6.alloc (.cells #[.int .i64 0, .int .i64 0, .string ⟨#[]⟩] 26) := ⟨_, rfl⟩
      rw [← hX] at SN LN L6 ⊢
      rw [← hbb] at LN hge7 ⊢
      have L7 := LN
      clear hbn hX hbb SH LN
      have SH := SN
      clear SN
      refine wpAnyH_ready (rs := [6]) (by kernel_rfl) (by simp) ?_
      refine AllReadyH.cons (o := { dst := some 106, op := Op.call { callee := Callee.value (Operand.func 9), args := #[Operand.tmp 103, Operand.tmp 105], argTypes := #[24, 9] }, type := 28, pos := "law.go:84", after := #[{ on := 3, ground := Ground.data }, { on := 5, ground := Ground.data }], guard := none }) rfl (fun K hK => ?_) ?_
      · go_simp
        go_at_call 9
        refine (HTS.out _ SH).mono ?_
        rintro e X10 ⟨A5, c5, rfl, ho5, hb5⟩
        have O5 := own_baseL ho5 SH.2.2.2.2.2.size
        have SN := keep12 hb5 SH
        replace L6 := L6.below hb5
        replace L7 := L7.below hb5
        refine hK.out _ _ (SN) (fun hHeld => ?_)
        clear hK K hHeld
        (try simp only [Act.put, List.setIfInBounds_toArray, List.set_cons_zero, List.set_cons_succ])
        clear hb5 ho5 SH
        have SH := SN
        clear SN
        refine wpAnyH_take (i := 7) (oi := { dst := some 99, op := Op.move (Operand.tmp 106), type := 28, pos := "law.go:84", after := #[{ on := 6, ground := Ground.data }], guard := none }) (v := ?tv18) rfl (by kernel_rfl) (by kernel_rfl) (by kernel_rfl) (fun _ _ _ h => h) (Or.inl ⟨by rfl, ?ty18⟩) (by assumption) ?tr18
        case ty18 => (intro w9 hSw; (try dsimp only at hSw); go_simp; (try with_reducible rfl))
        simp only [Act.put, List.setIfInBounds_toArray, List.set_cons_zero, List.set_cons_succ]
        refine wpAnyH_take (i := 8) (oi := { dst := some 107, op := Op.extract (Operand.tmp 99) 0, type := 24, pos := "law.go:84", after := #[{ on := 7, ground := Ground.data }], guard := none }) (v := ?tv19) rfl (by kernel_rfl) (by kernel_rfl) (by kernel_rfl) (fun _ _ _ h => h) (Or.inl ⟨by rfl, ?ty19⟩) (by assumption) ?tr19
        case ty19 => (intro w9 hSw; (try dsimp only at hSw); go_simp; (try with_reducible rfl))
        simp only [Act.put, List.setIfInBounds_toArray, List.set_cons_zero, List.set_cons_succ]
        refine wpAnyH_take (i := 9) (oi := { dst := some 108, op := Op.extract (Operand.tmp 99) 1, type := 26, pos := "law.go:84", after := #[{ on := 7, ground := Ground.data }, { on := 13, ground := Ground.gcOnly Departure.lateStores }], guard := none }) (v := ?tv20) rfl (by kernel_rfl) (by kernel_rfl) (by kernel_rfl) (fun _ _ _ h => h) (Or.inl ⟨by rfl, ?ty20⟩) (by assumption) ?tr20
        case ty20 => (intro w9 hSw; (try dsimp only at hSw); go_simp; (try with_reducible rfl))
        simp only [Act.put, List.setIfInBounds_toArray, List.set_cons_zero, List.set_cons_succ]
        refine wpAnyH_take (i := 10) (oi := { dst := some 109, op := Op.extract (Operand.tmp 99) 2, type := 27, pos := "law.go:84", after := #[{ on := 7, ground := Ground.data }, { on := 14, ground := Ground.gcOnly Departure.lateStores }], guard := none }) (v := ?tv21) rfl (by kernel_rfl) (by kernel_rfl) (by kernel_rfl) (fun _ _ _ h => h) (Or.inl ⟨by rfl, ?ty21⟩) (by assumption) ?tr21
        case ty21 => (intro w9 hSw; (try dsimp only at hSw); go_simp; (try with_reducible rfl))
        simp only [Act.put, List.setIfInBounds_toArray, List.set_cons_zero, List.set_cons_succ]
        have h6b : b6 ≠ b := by have := HKW.out; omega
        have h6k : b6 ≠ ka := by have := HKW.out; omega
        have h7b : b7 ≠ b := by have := HKW.out; omega
        have h7k : b7 ≠ ka := by have := HKW.out; omega
        have h67 : b6 ≠ b7 := fun e => by
          have g1 := L6
          have g2 := L7
          rw [e] at g1
          unfold Lies at g1 g2
          rw [g1] at g2
          simp at g2
        have H6 := Lib.hid L6
        have H7 := Lib.hid L7
        have HO := Lib.hid O5
        have HSH := Lib.hid SH
        have z0 := L6.cell (j := 0) rfl; have z1 := L6.cell (j := 1) rfl; have z2 := L6.cell (j := 2) rfl; have z3 := L6.cell (j := 3) rfl
        have f0 := L6.free 0; have f1 := L6.free 1; have f2 := L6.free 2; have f3 := L6.free 3
        have u0 := L7.cell (j := 0) rfl; have u1 := L7.cell (j := 1) rfl; have u2 := L7.cell (j := 2) rfl
        have v0 := L7.free 0; have v1 := L7.free 1; have v2 := L7.free 2
        clear L6 L7 O5
        refine wpAnyH_ready (rs := [13]) (by kernel_rfl) (by simp) ?_
        refine AllReadyH.cons (o := { dst := none, op := Op.store 24 (Operand.tmp 6) (Operand.tmp 107), type := 0, pos := "law.go:84", after := #[{ on := 11, ground := Ground.data }, { on := 8, ground := Ground.data }, { on := 6, ground := Ground.chain }, { on := 0, ground := Ground.phase }, { on := 1, ground := Ground.phase }, { on := 2, ground := Ground.phase }, { on := 3, ground := Ground.phase }, { on := 4, ground := Ground.phase }, { on := 5, ground := Ground.phase }, { on := 6, ground := Ground.phase }, { on := 7, ground := Ground.phase }, { on := 8, ground := Ground.phase }, { on := 9, ground := Ground.textOnly Departure.lateStores }, { on := 10, ground := Ground.textOnly Departure.lateStores }, { on := 11, ground := Ground.phase }, { on := 12, ground := Ground.phase }], guard := none }) rfl (fun K hK => ?_) ?_
        · go_simp
          refine hK.out _ _ (keep12s h6b h6k hge6 HSH.out) (fun hHeld => ?_)
          clear hK K hHeld
          (try simp only [Act.put, List.setIfInBounds_toArray, List.set_cons_zero, List.set_cons_succ])
          have S2 := keep12s (v0 := .int .i64 t.epoch) (v1 := .int .i64 t.base) (v2 := .slice A5 tn c5) (v3 := .int .i64 t.timer) h6b h6k hge6 HSH.out
          clear SH
          refine wpAnyH_ready (rs := [14]) (by kernel_rfl) (by simp) ?_
          refine AllReadyH.cons (o := { dst := none, op := Op.store 26 (Operand.tmp 7) (Operand.tmp 108), type := 0, pos := "law.go:84", after := #[{ on := 12, ground := Ground.data }, { on := 9, ground := Ground.data }, { on := 13, ground := Ground.chain }, { on := 0, ground := Ground.phase }, { on := 1, ground := Ground.phase }, { on := 2, ground := Ground.phase }, { on := 3, ground := Ground.phase }, { on := 4, ground := Ground.phase }, { on := 5, ground := Ground.phase }, { on := 6, ground := Ground.phase }, { on := 7, ground := Ground.phase }, { on := 8, ground := Ground.phase }, { on := 9, ground := Ground.phase }, { on := 10, ground := Ground.textOnly Departure.lateStores }, { on := 11, ground := Ground.phase }, { on := 12, ground := Ground.phase }, { on := 13, ground := Ground.phase }], guard := none }) rfl (fun K hK => ?_) ?_
          · go_simp
            refine hK.out _ _ (keep12t h7b h7k hge7 (keep12s h6b h6k hge6 HSH.out)) (fun hHeld => ?_)
            clear hK K hHeld
            (try simp only [Act.put, List.setIfInBounds_toArray, List.set_cons_zero, List.set_cons_succ])
            have S3 := keep12t (v0 := .int .i64 x.epoch) (v1 := .int .i64 x.no) (v2 := .string x.body) h7b h7k hge7 S2
            clear S2 z0 z1 z2 z3 f0 f1 f2 f3 u0 u1 u2 v0 v1 v2
            refine wpAnyH_take (i := 15) (oi := { dst := some 8, op := Op.assign (Operand.tmp 109), type := 27, pos := "law.go:84", after := #[{ on := 10, ground := Ground.data }, { on := 14, ground := Ground.chain }, { on := 0, ground := Ground.phase }, { on := 1, ground := Ground.phase }, { on := 2, ground := Ground.phase }, { on := 3, ground := Ground.phase }, { on := 4, ground := Ground.phase }, { on := 5, ground := Ground.phase }, { on := 6, ground := Ground.phase }, { on := 7, ground := Ground.phase }, { on := 8, ground := Ground.phase }, { on := 9, ground := Ground.phase }, { on := 10, ground := Ground.phase }, { on := 11, ground := Ground.phase }, { on := 12, ground := Ground.phase }, { on := 13, ground := Ground.phase }, { on := 14, ground := Ground.phase }], guard := none }) (v := ?tv22) rfl (by kernel_rfl) (by kernel_rfl) (by kernel_rfl) (fun _ _ _ h => h) (Or.inl ⟨by rfl, ?ty22⟩) (by assumption) ?tr22
            case ty22 => (intro w9 hSw; (try dsimp only at hSw); go_simp; (try with_reducible rfl))
            simp only [Act.put, List.setIfInBounds_toArray, List.set_cons_zero, List.set_cons_succ]
            refine wpAnyH_done (by kernel_rfl) ?_ _
            refine NoPanic.normal ?_
            clear S3
            exact hQ b6 b7 A5 c5 _ ⟨(((Gen.Lies.set4 H6.out _ _ _ _).other h67 _ _).other h67 _ _).other h67 _ _, lies_setP ((((H7.out.other (fun e => h67 e.symm) _ _).other (fun e => h67 e.symm) _ _).other (fun e => h67 e.symm) _ _).other (fun e => h67 e.symm) _ _) _ _ _,
              own_set3L (own_set4C HO.out (own_blk HO.out H6.out str_sn) _ _ _ _) (own_blk HO.out H7.out str_pk) _ _ _, ((Gen.below_set4 HSH.out.2.2.2.2.2 hge6 _ _ _ _).setCell (p := ⟨b7, 0, none⟩) hge7 _ |>.setCell (p := ⟨b7, 1, none⟩) hge7 _).setCell (p := ⟨b7, 2, none⟩) hge7 _⟩
          · exact AllReadyH.nil
        · exact AllReadyH.nil
      exact AllReadyH.nil
    exact AllReadyH.nil
  refine AllReadyH.cons (o := { dst := some 7, op := Op.alloc 26, type := 0, pos := "law.go:84", after := #[], guard := none }) rfl (fun K hK => ?_) ?_
  · go_simp
    have SN := keep12a (ob := (.cells #[.int .i64 0, .int .i64 0, .string ⟨#[]⟩] 26)) SH
    have LN := Lies.new X0 #[.int .i64 0, .int .i64 0, .string ⟨#[]⟩] 26
    refine hK.out _ _ (SN) (fun hHeld => ?_)
    clear hK K hHeld
    (try simp only [Act.put, List.setIfInBounds_toArray, List.set_cons_zero, List.set_cons_succ])
    have hbn := below_al (o := (.cells #[.int .i64 0, .int .i64 0, .string ⟨#[]⟩] 26)) (Below.refl X0.heap.size X0)
    have hge7 : W1.heap.size ≤ X0.heap.size := SH.2.2.2.2.2.size
    obtain ⟨b7, hbb⟩ : ∃ b, b = X0.heap.size := ⟨_, rfl⟩
    obtain ⟨X11, hX⟩ : ∃ X, X = X0.alloc (.cells #[.int .i64 0, .int .i64 0, .string ⟨#[]⟩] 26) := ⟨_, rfl⟩
    rw [← hX] at SN LN ⊢
    rw [← hbb] at LN hge7 ⊢
    have L7 := LN
    clear hbn hX hbb SH LN
    have SH := SN
    clear SN
    refine wpAnyH_ready (rs := [6, 11]) (by kernel_rfl) (by simp) ?_
    refine AllReadyH.cons (o := { dst := some 106, op := Op.call { callee := Callee.value (Operand.func 9), args := #[Operand.tmp 103, Operand.tmp 105], argTypes := #[24, 9] }, type := 28, pos := "law.go:84", after := #[{ on := 3, ground := Ground.data }, { on := 5, ground := Ground.data }], guard := none }) rfl (fun K hK => ?_) ?_
    · go_simp
      go_at_call 9
      refine (HTS.out _ SH).mono ?_
      rintro e X12 ⟨A5, c5, rfl, ho5, hb5⟩
      have O5 := own_baseL ho5 SH.2.2.2.2.2.size
      have SN := keep12 hb5 SH
      replace L7 := L7.below hb5
      refine hK.out _ _ (SN) (fun hHeld => ?_)
      clear hK K hHeld
      (try simp only [Act.put, List.setIfInBounds_toArray, List.set_cons_zero, List.set_cons_succ])
      clear hb5 ho5 SH
      have SH := SN
      clear SN
      refine wpAnyH_take (i := 7) (oi := { dst := some 99, op := Op.move (Operand.tmp 106), type := 28, pos := "law.go:84", after := #[{ on := 6, ground := Ground.data }], guard := none }) (v := ?tv23) rfl (by kernel_rfl) (by kernel_rfl) (by kernel_rfl) (fun _ _ _ h => h) (Or.inl ⟨by rfl, ?ty23⟩) (by assumption) ?tr23
      case ty23 => (intro w9 hSw; (try dsimp only at hSw); go_simp; (try with_reducible rfl))
      simp only [Act.put, List.setIfInBounds_toArray, List.set_cons_zero, List.set_cons_succ]
      refine wpAnyH_take (i := 8) (oi := { dst := some 107, op := Op.extract (Operand.tmp 99) 0, type := 24, pos := "law.go:84", after := #[{ on := 7, ground := Ground.data }], guard := none }) (v := ?tv24) rfl (by kernel_rfl) (by kernel_rfl) (by kernel_rfl) (fun _ _ _ h => h) (Or.inl ⟨by rfl, ?ty24⟩) (by assumption) ?tr24
      case ty24 => (intro w9 hSw; (try dsimp only at hSw); go_simp; (try with_reducible rfl))
      simp only [Act.put, List.setIfInBounds_toArray, List.set_cons_zero, List.set_cons_succ]
      refine wpAnyH_take (i := 9) (oi := { dst := some 108, op := Op.extract (Operand.tmp 99) 1, type := 26, pos := "law.go:84", after := #[{ on := 7, ground := Ground.data }, { on := 13, ground := Ground.gcOnly Departure.lateStores }], guard := none }) (v := ?tv25) rfl (by kernel_rfl) (by kernel_rfl) (by kernel_rfl) (fun _ _ _ h => h) (Or.inl ⟨by rfl, ?ty25⟩) (by assumption) ?tr25
      case ty25 => (intro w9 hSw; (try dsimp only at hSw); go_simp; (try with_reducible rfl))
      simp only [Act.put, List.setIfInBounds_toArray, List.set_cons_zero, List.set_cons_succ]
      refine wpAnyH_take (i := 10) (oi := { dst := some 109, op := Op.extract (Operand.tmp 99) 2, type := 27, pos := "law.go:84", after := #[{ on := 7, ground := Ground.data }, { on := 14, ground := Ground.gcOnly Departure.lateStores }], guard := none }) (v := ?tv26) rfl (by kernel_rfl) (by kernel_rfl) (by kernel_rfl) (fun _ _ _ h => h) (Or.inl ⟨by rfl, ?ty26⟩) (by assumption) ?tr26
      case ty26 => (intro w9 hSw; (try dsimp only at hSw); go_simp; (try with_reducible rfl))
      simp only [Act.put, List.setIfInBounds_toArray, List.set_cons_zero, List.set_cons_succ]
      refine wpAnyH_ready (rs := [11]) (by kernel_rfl) (by simp) ?_
      refine AllReadyH.cons (o := { dst := some 6, op := Op.alloc 24, type := 0, pos := "law.go:84", after := #[], guard := none }) rfl (fun K hK => ?_) ?_
      · go_simp
        have SN := keep12a (ob := (.cells #[.int .i64 0, .int .i64 0, .slice none 0 0, .int .i64 0] 24)) SH
        have LN := Lies.new X12 #[.int .i64 0, .int .i64 0, .slice none 0 0, .int .i64 0] 24
        refine hK.out _ _ (SN) (fun hHeld => ?_)
        clear hK K hHeld
        (try simp only [Act.put, List.setIfInBounds_toArray, List.set_cons_zero, List.set_cons_succ])
        have hbn := below_al (o := (.cells #[.int .i64 0, .int .i64 0, .slice none 0 0, .int .i64 0] 24)) (Below.refl X12.heap.size X12)
        replace L7 := L7.below hbn
        replace O5 := own_upL O5 hbn
        have hge6 : W1.heap.size ≤ X12.heap.size := SH.2.2.2.2.2.size
        obtain ⟨b6, hbb⟩ : ∃ b, b = X12.heap.size := ⟨_, rfl⟩
        obtain ⟨X13, hX⟩ : ∃ X, X = X12.alloc (.cells #[.int .i64 0, .int .i64 0, .slice none 0 0, .int .i64 0] 24) := ⟨_, rfl⟩
        rw [← hX] at SN LN L7 O5 ⊢
        rw [← hbb] at LN hge6 ⊢
        have L6 := LN
        clear hbn hX hbb SH LN
        have SH := SN
        clear SN
        have h6b : b6 ≠ b := by have := HKW.out; omega
        have h6k : b6 ≠ ka := by have := HKW.out; omega
        have h7b : b7 ≠ b := by have := HKW.out; omega
        have h7k : b7 ≠ ka := by have := HKW.out; omega
        have h67 : b6 ≠ b7 := fun e => by
          have g1 := L6
          have g2 := L7
          rw [e] at g1
          unfold Lies at g1 g2
          rw [g1] at g2
          simp at g2
        have H6 := Lib.hid L6
        have H7 := Lib.hid L7
        have HO := Lib.hid O5
        have HSH := Lib.hid SH
        have z0 := L6.cell (j := 0) rfl; have z1 := L6.cell (j := 1) rfl; have z2 := L6.cell (j := 2) rfl; have z3 := L6.cell (j := 3) rfl
        have f0 := L6.free 0; have f1 := L6.free 1; have f2 := L6.free 2; have f3 := L6.free 3
        have u0 := L7.cell (j := 0) rfl; have u1 := L7.cell (j := 1) rfl; have u2 := L7.cell (j := 2) rfl
        have v0 := L7.free 0; have v1 := L7.free 1; have v2 := L7.free 2
        clear L6 L7 O5
        refine wpAnyH_ready (rs := [13]) (by kernel_rfl) (by simp) ?_
        refine AllReadyH.cons (o := { dst := none, op := Op.store 24 (Operand.tmp 6) (Operand.tmp 107), type := 0, pos := "law.go:84", after := #[{ on := 11, ground := Ground.data }, { on := 8, ground := Ground.data }, { on := 6, ground := Ground.chain }, { on := 0, ground := Ground.phase }, { on := 1, ground := Ground.phase }, { on := 2, ground := Ground.phase }, { on := 3, ground := Ground.phase }, { on := 4, ground := Ground.phase }, { on := 5, ground := Ground.phase }, { on := 6, ground := Ground.phase }, { on := 7, ground := Ground.phase }, { on := 8, ground := Ground.phase }, { on := 9, ground := Ground.textOnly Departure.lateStores }, { on := 10, ground := Ground.textOnly Departure.lateStores }, { on := 11, ground := Ground.phase }, { on := 12, ground := Ground.phase }], guard := none }) rfl (fun K hK => ?_) ?_
        · go_simp
          refine hK.out _ _ (keep12s h6b h6k hge6 HSH.out) (fun hHeld => ?_)
          clear hK K hHeld
          (try simp only [Act.put, List.setIfInBounds_toArray, List.set_cons_zero, List.set_cons_succ])
          have S2 := keep12s (v0 := .int .i64 t.epoch) (v1 := .int .i64 t.base) (v2 := .slice A5 tn c5) (v3 := .int .i64 t.timer) h6b h6k hge6 HSH.out
          clear SH
          refine wpAnyH_ready (rs := [14]) (by kernel_rfl) (by simp) ?_
          refine AllReadyH.cons (o := { dst := none, op := Op.store 26 (Operand.tmp 7) (Operand.tmp 108), type := 0, pos := "law.go:84", after := #[{ on := 12, ground := Ground.data }, { on := 9, ground := Ground.data }, { on := 13, ground := Ground.chain }, { on := 0, ground := Ground.phase }, { on := 1, ground := Ground.phase }, { on := 2, ground := Ground.phase }, { on := 3, ground := Ground.phase }, { on := 4, ground := Ground.phase }, { on := 5, ground := Ground.phase }, { on := 6, ground := Ground.phase }, { on := 7, ground := Ground.phase }, { on := 8, ground := Ground.phase }, { on := 9, ground := Ground.phase }, { on := 10, ground := Ground.textOnly Departure.lateStores }, { on := 11, ground := Ground.phase }, { on := 12, ground := Ground.phase }, { on := 13, ground := Ground.phase }], guard := none }) rfl (fun K hK => ?_) ?_
          · go_simp
            refine hK.out _ _ (keep12t h7b h7k hge7 (keep12s h6b h6k hge6 HSH.out)) (fun hHeld => ?_)
            clear hK K hHeld
            (try simp only [Act.put, List.setIfInBounds_toArray, List.set_cons_zero, List.set_cons_succ])
            have S3 := keep12t (v0 := .int .i64 x.epoch) (v1 := .int .i64 x.no) (v2 := .string x.body) h7b h7k hge7 S2
            clear S2 z0 z1 z2 z3 f0 f1 f2 f3 u0 u1 u2 v0 v1 v2
            refine wpAnyH_take (i := 15) (oi := { dst := some 8, op := Op.assign (Operand.tmp 109), type := 27, pos := "law.go:84", after := #[{ on := 10, ground := Ground.data }, { on := 14, ground := Ground.chain }, { on := 0, ground := Ground.phase }, { on := 1, ground := Ground.phase }, { on := 2, ground := Ground.phase }, { on := 3, ground := Ground.phase }, { on := 4, ground := Ground.phase }, { on := 5, ground := Ground.phase }, { on := 6, ground := Ground.phase }, { on := 7, ground := Ground.phase }, { on := 8, ground := Ground.phase }, { on := 9, ground := Ground.phase }, { on := 10, ground := Ground.phase }, { on := 11, ground := Ground.phase }, { on := 12, ground := Ground.phase }, { on := 13, ground := Ground.phase }, { on := 14, ground := Ground.phase }], guard := none }) (v := ?tv27) rfl (by kernel_rfl) (by kernel_rfl) (by kernel_rfl) (fun _ _ _ h => h) (Or.inl ⟨by rfl, ?ty27⟩) (by assumption) ?tr27
            case ty27 => (intro w9 hSw; (try dsimp only at hSw); go_simp; (try with_reducible rfl))
            simp only [Act.put, List.setIfInBounds_toArray, List.set_cons_zero, List.set_cons_succ]
            refine wpAnyH_done (by kernel_rfl) ?_ _
            refine NoPanic.normal ?_
            clear S3
            exact hQ b6 b7 A5 c5 _ ⟨(((Gen.Lies.set4 H6.out _ _ _ _).other h67 _ _).other h67 _ _).other h67 _ _, lies_setP ((((H7.out.other (fun e => h67 e.symm) _ _).other (fun e => h67 e.symm) _ _).other (fun e => h67 e.symm) _ _).other (fun e => h67 e.symm) _ _) _ _ _,
              own_set3L (own_set4C HO.out (own_blk HO.out H6.out str_sn) _ _ _ _) (own_blk HO.out H7.out str_pk) _ _ _, ((Gen.below_set4 HSH.out.2.2.2.2.2 hge6 _ _ _ _).setCell (p := ⟨b7, 0, none⟩) hge7 _ |>.setCell (p := ⟨b7, 1, none⟩) hge7 _).setCell (p := ⟨b7, 2, none⟩) hge7 _⟩
          · exact AllReadyH.nil
        · exact AllReadyH.nil
      exact AllReadyH.nil
    refine AllReadyH.cons (o := { dst := some 6, op := Op.alloc 24, type := 0, pos := "law.go:84", after := #[], guard := none }) rfl (fun K hK => ?_) ?_
    · go_simp
      have SN := keep12a (ob := (.cells #[.int .i64 0, .int .i64 0, .slice none 0 0, .int .i64 0] 24)) SH
      have LN := Lies.new X11 #[.int .i64 0, .int .i64 0, .slice none 0 0, .int .i64 0] 24
      refine hK.out _ _ (SN) (fun hHeld => ?_)
      clear hK K hHeld
      (try simp only [Act.put, List.setIfInBounds_toArray, List.set_cons_zero, List.set_cons_succ])
      have hbn := below_al (o := (.cells #[.int .i64 0, .int .i64 0, .slice none 0 0, .int .i64 0] 24)) (Below.refl X11.heap.size X11)
      replace L7 := L7.below hbn
      have hge6 : W1.heap.size ≤ X11.heap.size := SH.2.2.2.2.2.size
      obtain ⟨b6, hbb⟩ : ∃ b, b = X11.heap.size := ⟨_, rfl⟩
      obtain ⟨X14, hX⟩ : ∃ X, X = X11.alloc (.cells #[.int .i64 0, .int .i64 0, .slice none 0 0, .int .i64 0] 24) := ⟨_, rfl⟩
      rw [← hX] at SN LN L7 ⊢
      rw [← hbb] at LN hge6 ⊢
      have L6 := LN
      clear hbn hX hbb SH LN
      have SH := SN
      clear SN
      refine wpAnyH_ready (rs := [6]) (by kernel_rfl) (by simp) ?_
      refine AllReadyH.cons (o := { dst := some 106, op := Op.call { callee := Callee.value (Operand.func 9), args := #[Operand.tmp 103, Operand.tmp 105], argTypes := #[24, 9] }, type := 28, pos := "law.go:84", after := #[{ on := 3, ground := Ground.data }, { on := 5, ground := Ground.data }], guard := none }) rfl (fun K hK => ?_) ?_
      · go_simp
        go_at_call 9
        refine (HTS.out _ SH).mono ?_
        rintro e X15 ⟨A5, c5, rfl, ho5, hb5⟩
        have O5 := own_baseL ho5 SH.2.2.2.2.2.size
        have SN := keep12 hb5 SH
        replace L6 := L6.below hb5
        replace L7 := L7.below hb5
        refine hK.out _ _ (SN) (fun hHeld => ?_)
        clear hK K hHeld
        (try simp only [Act.put, List.setIfInBounds_toArray, List.set_cons_zero, List.set_cons_succ])
        clear hb5 ho5 SH
        have SH := SN
        clear SN
        refine wpAnyH_take (i := 7) (oi := { dst := some 99, op := Op.move (Operand.tmp 106), type := 28, pos := "law.go:84", after := #[{ on := 6, ground := Ground.data }], guard := none }) (v := ?tv28) rfl (by kernel_rfl) (by kernel_rfl) (by kernel_rfl) (fun _ _ _ h => h) (Or.inl ⟨by rfl, ?ty28⟩) (by assumption) ?tr28
        case ty28 => (intro w9 hSw; (try dsimp only at hSw); go_simp; (try with_reducible rfl))
        simp only [Act.put, List.setIfInBounds_toArray, List.set_cons_zero, List.set_cons_succ]
        refine wpAnyH_take (i := 8) (oi := { dst := some 107, op := Op.extract (Operand.tmp 99) 0, type := 24, pos := "law.go:84", after := #[{ on := 7, ground := Ground.data }], guard := none }) (v := ?tv29) rfl (by kernel_rfl) (by kernel_rfl) (by kernel_rfl) (fun _ _ _ h => h) (Or.inl ⟨by rfl, ?ty29⟩) (by assumption) ?tr29
        case ty29 => (intro w9 hSw; (try dsimp only at hSw); go_simp; (try with_reducible rfl))
        simp only [Act.put, List.setIfInBounds_toArray, List.set_cons_zero, List.set_cons_succ]
        refine wpAnyH_take (i := 9) (oi := { dst := some 108, op := Op.extract (Operand.tmp 99) 1, type := 26, pos := "law.go:84", after := #[{ on := 7, ground := Ground.data }, { on := 13, ground := Ground.gcOnly Departure.lateStores }], guard := none }) (v := ?tv30) rfl (by kernel_rfl) (by kernel_rfl) (by kernel_rfl) (fun _ _ _ h => h) (Or.inl ⟨by rfl, ?ty30⟩) (by assumption) ?tr30
        case ty30 => (intro w9 hSw; (try dsimp only at hSw); go_simp; (try with_reducible rfl))
        simp only [Act.put, List.setIfInBounds_toArray, List.set_cons_zero, List.set_cons_succ]
        refine wpAnyH_take (i := 10) (oi := { dst := some 109, op := Op.extract (Operand.tmp 99) 2, type := 27, pos := "law.go:84", after := #[{ on := 7, ground := Ground.data }, { on := 14, ground := Ground.gcOnly Departure.lateStores }], guard := none }) (v := ?tv31) rfl (by kernel_rfl) (by kernel_rfl) (by kernel_rfl) (fun _ _ _ h => h) (Or.inl ⟨by rfl, ?ty31⟩) (by assumption) ?tr31
        case ty31 => (intro w9 hSw; (try dsimp only at hSw); go_simp; (try with_reducible rfl))
        simp only [Act.put, List.setIfInBounds_toArray, List.set_cons_zero, List.set_cons_succ]
        have h6b : b6 ≠ b := by have := HKW.out; omega
        have h6k : b6 ≠ ka := by have := HKW.out; omega
        have h7b : b7 ≠ b := by have := HKW.out; omega
        have h7k : b7 ≠ ka := by have := HKW.out; omega
        have h67 : b6 ≠ b7 := fun e => by
          have g1 := L6
          have g2 := L7
          rw [e] at g1
          unfold Lies at g1 g2
          rw [g1] at g2
          simp at g2
        have H6 := Lib.hid L6
        have H7 := Lib.hid L7
        have HO := Lib.hid O5
        have HSH := Lib.hid SH
        have z0 := L6.cell (j := 0) rfl; have z1 := L6.cell (j := 1) rfl; have z2 := L6.cell (j := 2) rfl; have z3 := L6.cell (j := 3) rfl
        have f0 := L6.free 0; have f1 := L6.free 1; have f2 := L6.free 2; have f3 := L6.free 3
        have u0 := L7.cell (j := 0) rfl; have u1 := L7.cell (j := 1) rfl; have u2 := L7.cell (j := 2) rfl
        have v0 := L7.free 0; have v1 := L7.free 1; have v2 := L7.free 2
        clear L6 L7 O5
        refine wpAnyH_ready (rs := [13]) (by kernel_rfl) (by simp) ?_
        refine AllReadyH.cons (o := { dst := none, op := Op.store 24 (Operand.tmp 6) (Operand.tmp 107), type := 0, pos := "law.go:84", after := #[{ on := 11, ground := Ground.data }, { on := 8, ground := Ground.data }, { on := 6, ground := Ground.chain }, { on := 0, ground := Ground.phase }, { on := 1, ground := Ground.phase }, { on := 2, ground := Ground.phase }, { on := 3, ground := Ground.phase }, { on := 4, ground := Ground.phase }, { on := 5, ground := Ground.phase }, { on := 6, ground := Ground.phase }, { on := 7, ground := Ground.phase }, { on := 8, ground := Ground.phase }, { on := 9, ground := Ground.textOnly Departure.lateStores }, { on := 10, ground := Ground.textOnly Departure.lateStores }, { on := 11, ground := Ground.phase }, { on := 12, ground := Ground.phase }], guard := none }) rfl (fun K hK => ?_) ?_
        · go_simp
          refine hK.out _ _ (keep12s h6b h6k hge6 HSH.out) (fun hHeld => ?_)
          clear hK K hHeld
          (try simp only [Act.put, List.setIfInBounds_toArray, List.set_cons_zero, List.set_cons_succ])
          have S2 := keep12s (v0 := .int .i64 t.epoch) (v1 := .int .i64 t.base) (v2 := .slice A5 tn c5) (v3 := .int .i64 t.timer) h6b h6k hge6 HSH.out
          clear SH
          refine wpAnyH_ready (rs := [14]) (by kernel_rfl) (by simp) ?_
          refine AllReadyH.cons (o := { dst := none, op := Op.store 26 (Operand.tmp 7) (Operand.tmp 108), type := 0, pos := "law.go:84", after := #[{ on := 12, ground := Ground.data }, { on := 9, ground := Ground.data }, { on := 13, ground := Ground.chain }, { on := 0, ground := Ground.phase }, { on := 1, ground := Ground.phase }, { on := 2, ground := Ground.phase }, { on := 3, ground := Ground.phase }, { on := 4, ground := Ground.phase }, { on := 5, ground := Ground.phase }, { on := 6, ground := Ground.phase }, { on := 7, ground := Ground.phase }, { on := 8, ground := Ground.phase }, { on := 9, ground := Ground.phase }, { on := 10, ground := Ground.textOnly Departure.lateStores }, { on := 11, ground := Ground.phase }, { on := 12, ground := Ground.phase }, { on := 13, ground := Ground.phase }], guard := none }) rfl (fun K hK => ?_) ?_
          · go_simp
            refine hK.out _ _ (keep12t h7b h7k hge7 (keep12s h6b h6k hge6 HSH.out)) (fun hHeld => ?_)
            clear hK K hHeld
            (try simp only [Act.put, List.setIfInBounds_toArray, List.set_cons_zero, List.set_cons_succ])
            have S3 := keep12t (v0 := .int .i64 x.epoch) (v1 := .int .i64 x.no) (v2 := .string x.body) h7b h7k hge7 S2
            clear S2 z0 z1 z2 z3 f0 f1 f2 f3 u0 u1 u2 v0 v1 v2
            refine wpAnyH_take (i := 15) (oi := { dst := some 8, op := Op.assign (Operand.tmp 109), type := 27, pos := "law.go:84", after := #[{ on := 10, ground := Ground.data }, { on := 14, ground := Ground.chain }, { on := 0, ground := Ground.phase }, { on := 1, ground := Ground.phase }, { on := 2, ground := Ground.phase }, { on := 3, ground := Ground.phase }, { on := 4, ground := Ground.phase }, { on := 5, ground := Ground.phase }, { on := 6, ground := Ground.phase }, { on := 7, ground := Ground.phase }, { on := 8, ground := Ground.phase }, { on := 9, ground := Ground.phase }, { on := 10, ground := Ground.phase }, { on := 11, ground := Ground.phase }, { on := 12, ground := Ground.phase }, { on := 13, ground := Ground.phase }, { on := 14, ground := Ground.phase }], guard := none }) (v := ?tv32) rfl (by kernel_rfl) (by kernel_rfl) (by kernel_rfl) (fun _ _ _ h => h) (Or.inl ⟨by rfl, ?ty32⟩) (by assumption) ?tr32
            case ty32 => (intro w9 hSw; (try dsimp only at hSw); go_simp; (try with_reducible rfl))
            simp only [Act.put, List.setIfInBounds_toArray, List.set_cons_zero, List.set_cons_succ]
            refine wpAnyH_done (by kernel_rfl) ?_ _
            refine NoPanic.normal ?_
            clear S3
            exact hQ b6 b7 A5 c5 _ ⟨(((Gen.Lies.set4 H6.out _ _ _ _).other h67 _ _).other h67 _ _).other h67 _ _, lies_setP ((((H7.out.other (fun e => h67 e.symm) _ _).other (fun e => h67 e.symm) _ _).other (fun e => h67 e.symm) _ _).other (fun e => h67 e.symm) _ _) _ _ _,
              own_set3L (own_set4C HO.out (own_blk HO.out H6.out str_sn) _ _ _ _) (own_blk HO.out H7.out str_pk) _ _ _, ((Gen.below_set4 HSH.out.2.2.2.2.2 hge6 _ _ _ _).setCell (p := ⟨b7, 0, none⟩) hge7 _ |>.setCell (p := ⟨b7, 1, none⟩) hge7 _).setCell (p := ⟨b7, 2, none⟩) hge7 _⟩
          · exact AllReadyH.nil
        · exact AllReadyH.nil
      exact AllReadyH.nil
    exact AllReadyH.nil
  exact AllReadyH.nil
end Lk
end Go.Proofs.Ytbdlmokgmgpbfaa
