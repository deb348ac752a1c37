/- ItemRight, Lift, JobIns, put together. -/
import Derived.Test.YtipmphkmeiogoaaZ3
import Derived.Test.YtipmphkmeiogoaaZ2
import Derived.Deep.RegionHeld3
import Derived.Laws.StructEq
import Derived.Test.YtipmphkmeiogoaaRows
import Derived.WalkKit
import Derived.ProofKit
import Derived.OpenShut
import Derived.SizedLaws
import Derived.Carry
import Derived.JoinedCond
import Derived.Deep.CondSized
/- Contracts of which items may be, of package item and of the reference. -/
namespace Go.Proofs.Ytipmphkmeiogoaa
open Go.RowKit
open Itm
set_option linter.unusedVariables false
set_option maxRecDepth 8000
/-- Hands back a truth; nothing is touched. -/
def Says (b : Bool) (w : World) (e : Ending) (w' : World) : Prop := e = .returned (.bool b) ∧ w = w'
theorem itWithin (n lo hi : Int) (w : World) :
    Calls Try.prog 93 #[.int .i64 n, .int .i64 lo, .int .i64 hi] w (Says (wn n lo hi) w) := by
  by_cases h1 : lo ≤ n
  · by_cases h2 : n ≤ hi
    · have hc := Lib.hid (wn_true h1 h2)
      go_enter Try.func93, Try.ntmps93
      go_wp2_with fail
      go_ret
      exact ⟨by rw [hc.out]; rfl, rfl⟩
    · have hc := Lib.hid (wn_hi (lo := lo) h2)
      go_enter Try.func93, Try.ntmps93
      go_wp2_with fail
      go_ret
      exact ⟨by rw [hc.out]; rfl, rfl⟩
  · have hc := Lib.hid (wn_lo (hi := hi) h1)
    go_enter Try.func93, Try.ntmps93
    go_wp2_with fail
    go_ret
    exact ⟨by rw [hc.out]; rfl, rfl⟩
theorem itKey (s : ByteArray) (w : World) :
    Calls Try.prog 92 #[.string s] w (Says (okKey s) w) := by
  go_enter Try.func92, Try.ntmps92
  go_wp2_with fail
  refine (itWithin _ _ _ _).mono ?_
  rintro e w' ⟨rfl, rfl⟩
  go_wp2_with fail
  go_ret
  exact ⟨rfl, rfl⟩
theorem rfKey (s : ByteArray) (w : World) :
    Calls Try.prog 68 #[.string s] w (Says (okKey s) w) := by
  by_cases h1 : (1 : Int) ≤ s.size
  · by_cases h2 : (s.size : Int) ≤ 16
    · have hc := Lib.hid (show okKey s = true from wn_true h1 h2)
      go_enter Try.func68, Try.ntmps68
      go_wp2_with fail
      go_ret
      exact ⟨by rw [hc.out]; rfl, rfl⟩
    · have hc := Lib.hid (show okKey s = false from wn_hi h2)
      go_enter Try.func68, Try.ntmps68
      go_wp2_with fail
      go_ret
      exact ⟨by rw [hc.out]; rfl, rfl⟩
  · have hc := Lib.hid (show okKey s = false from wn_lo h1)
    go_enter Try.func68, Try.ntmps68
    go_wp2_with fail
    go_ret
    exact ⟨by rw [hc.out]; rfl, rfl⟩
/-- Hands back a truth; what was stays. -/
def Tells (b : Bool) (w : World) (e : Ending) (w' : World) : Prop := e = .returned (.bool b) ∧ Below w.heap.size w w'
/-- Hands back a truth; its argument was laid anew. -/
def TellsA (b : Bool) (o : Obj) (w : World) (e : Ending) (w' : World) : Prop := e = .returned (.bool b) ∧ w' = w.alloc o
theorem itEvent (k : ByteArray) (a v : Int) (w : World) :
    Calls Try.prog 80 #[evV k a v] w (TellsA (okEv k a) (.cells (evC k a v) 45) w) := by
  by_cases hk : okKey k = true
  · have hc := Lib.hid (show okEv k a = wn a 0 1099511627775 from by unfold okEv; rw [hk, Bool.true_and])
    go_enter Try.func80, Try.ntmps80
    go_wp2_with fail
    refine (itKey _ _).mono ?_
    rintro e w' ⟨rfl, rfl⟩
    go_wp2_with fail
    refine (itWithin _ _ _ _).mono ?_
    rintro e w' ⟨rfl, rfl⟩
    go_wp2_with fail
    go_ret
    exact ⟨by rw [hc.out]; rfl, rfl⟩
  · have hk' : okKey k = false := by simpa using hk
    have hc := Lib.hid (show okEv k a = false from by unfold okEv; rw [hk', Bool.false_and])
    clear hk
    go_enter Try.func80, Try.ntmps80
    go_wp2_with fail
    refine (itKey _ _).mono ?_
    rintro e w' ⟨rfl, rfl⟩
    go_wp2_with fail
    go_ret
    exact ⟨by rw [hc.out]; rfl, rfl⟩
theorem rfEvent (k : ByteArray) (a v : Int) (w : World) :
    Calls Try.prog 44 #[evV k a v] w (TellsA (okEv k a) (.cells (evC k a v) 45) w) := by
  by_cases hk : okKey k = true
  · by_cases h1 : 0 ≤ a
    · by_cases h2 : a < 1099511627776
      · have hc := Lib.hid (show okEv k a = true from by unfold okEv; rw [hk, Bool.true_and]; exact wn_true h1 (by omega))
        go_enter Try.func44, Try.ntmps44
        go_wp2_with fail
        refine (rfKey _ _).mono ?_
        rintro e w' ⟨rfl, rfl⟩
        go_wp2_with fail
        go_ret
        exact ⟨by rw [hc.out]; rfl, rfl⟩
      · have hc := Lib.hid (show okEv k a = false from by unfold okEv; rw [hk, Bool.true_and]; exact wn_hi (by omega))
        have hd : decide (a < 1099511627776) = false := decide_eq_false h2
        go_enter Try.func44, Try.ntmps44
        go_wp2_with fail
        refine (rfKey _ _).mono ?_
        rintro e w' ⟨rfl, rfl⟩
        go_wp2_with fail
        go_ret
        exact ⟨by rw [hc.out]; rfl, rfl⟩
    · have hc := Lib.hid (show okEv k a = false from by unfold okEv; rw [hk, Bool.true_and]; exact wn_lo h1)
      go_enter Try.func44, Try.ntmps44
      go_wp2_with fail
      refine (rfKey _ _).mono ?_
      rintro e w' ⟨rfl, rfl⟩
      go_wp2_with fail
      go_ret
      exact ⟨by rw [hc.out]; rfl, rfl⟩
  · have hk' : okKey k = false := by simpa using hk
    have hc := Lib.hid (show okEv k a = false from by unfold okEv; rw [hk', Bool.false_and])
    clear hk
    go_enter Try.func44, Try.ntmps44
    go_wp2_with fail
    refine (rfKey _ _).mono ?_
    rintro e w' ⟨rfl, rfl⟩
    go_wp2_with fail
    go_ret
    exact ⟨by rw [hc.out]; rfl, rfl⟩
end Go.Proofs.Ytipmphkmeiogoaa
/- A law's statement from its walk: if the call returns true and leaves all old blocks as they were, the row holds. For every law of the seat. -/
namespace Go.Proofs.Ytipmphkmeiogoaa
open Go.ChangeShapes Go.WideShapes Go.ChangeAt Go.RowKit
set_option linter.unusedVariables false
namespace Lift
theorem own : ownKnob Try.prog.godebug = none := by kernel_rfl
theorem laidOut : laidOutB Try.prog = true := by kernel_rfl

theorem trodAll_carry {H : Type} {enc : TypeId × Value → H} {P : Program} (hl : laidOutB P = true) {W W' : World} (hb : Below W.heap.size W W') {sp : Nat → Bool} :
    ∀ (ts : List TypeId) (vs : List Value) (ds : List (DataW H)) (ps : List MemPlace), (∀ t ∈ ts, P.readableRec t = true ∧ t < P.types.size) →
      DataW.TrodAll enc P W 0 (fun _ => true) true ts vs ds ps → (∀ x ∈ ps, x.block < W.heap.size) → (∀ x ∈ ps, sp x.block = true) →
      DataW.TrodAll enc P W' 0 sp true ts vs ds ps
  | [], [], [], ps, _, h, _, _ => h
  | t :: ts, v :: vs, d :: ds, ps, ht, h, hlt, hsp => by
    obtain ⟨p, q, h1, h2, rfl⟩ := h
    refine ⟨p, q, WideElems.Trod_stays hl (ht t (by simp)).1 (ht t (by simp)).2 h1 (fun x hx => hb.same (hlt x (by simp [hx]))) (fun x hx => hsp x (by simp [hx])), ?_, rfl⟩
    exact trodAll_carry hl hb ts vs ds q (fun t' h' => ht t' (by simp [h'])) h2 (fun x hx => hlt x (by simp [hx])) (fun x hx => hsp x (by simp [hx]))
  | [], [], _ :: _, _, _, h, _, _ => h.elim
  | [], _ :: _, _, _, _, h, _, _ => by cases ‹List (DataW H)› <;> exact h.elim
  | _ :: _, [], _, _, _, h, _, _ => by cases ‹List (DataW H)› <;> exact h.elim
  | _ :: _, _ :: _, [], _, _, h, _, _ => h.elim

theorem law_post {H : Type} {enc : TypeId × Value → H} {P : Program} (hl : laidOutB P = true) {f : Func} {s : ChangeSpec} {apart fresh handsOn again : Bool} {W W' : World} {args : Array Value} {ds : List (DataW H)} {before : List MemPlace} {tb : TypeId}
    (hvars : s.vars = []) (hres : f.resultTypes = #[tb]) (htb : P.underlying tb = some .bool) (hpar : ∀ t ∈ f.params.toList, P.readableRec t = true ∧ t < P.types.size)
    (hA : DataW.TrodAll enc P W 0 (fun _ => true) true f.params.toList args.toList ds before)
    (hW : DataW.Whole enc P f.params.toList s.vars apart W args.toList ds [] before)
    (hs : s.fn H (ds ++ []) = { results := [.lit (.bool true)], args := ds }) (hb : Below W.heap.size W W') :
    s.post enc P f apart fresh handsOn again W args (.bool true) W' := by
  have hlt : ∀ p ∈ before, p.block < W.heap.size := fun p hp => hW.lt p hp
  have hold : ∀ p ∈ before, (fun b => decide (b < W.heap.size)) p.block = true := fun p hp => by simpa using hlt p hp
  have hargs : ∀ sp : Nat → Bool, (∀ p ∈ before, sp p.block = true) → DataW.TrodAll enc P W' 0 sp true f.params.toList args.toList ds before :=
    fun sp hsp => trodAll_carry hl hb _ _ _ _ hpar hA hlt hsp
  have hr : ∀ (b : Nat) (sp : Nat → Bool) (hd : Bool), DataW.TrodAll enc P W' b sp hd f.resultTypes.toList ((Value.bool true).resultList f.resultTypes.size) [.lit (.bool true)] [] := by
    intro b sp hd
    rw [hres]
    exact trodAll_cons_mk (shut_bool htb _) trodAll_mk0
  have hok : ∀ (j : Nat) (t : TypeId) (r : Value), f.resultTypes[j]? = some t → ((Value.bool true).resultList f.resultTypes.size)[j]? = some r → Value.okWide P W' .any 0 t r :=
    ok_one hres rfl (okWide_bool_mk htb _)
  refine ⟨ds, [], before, [], before, [], hW, by rw [hs]; exact hr _ _ _, by rw [hs]; exact hargs _ hold, by rw [hs, hvars]; rfl, World.keptBut_mono (fun p hp => ⟨hp, .inr (.inl hp)⟩) (hb.frame (· ∈ before)), fun _ => ?_⟩
  have hW0 := hW
  obtain ⟨_, _, _, _, _, hz, hn⟩ := hW
  refine ⟨hok, _, [], [] ++ before ++ [], ⟨[] ++ before, [], trodAll_append (hargs _ (fun _ _ => rfl)) (hr _ _ _), by rw [hvars]; rfl, by simp, ?_, ?_⟩, ?_⟩
  · intro b off hp
    have hin : MemPlace.cell b off ∈ before := by simpa using hp
    rw [hb.frozen (hlt _ hin)]
    exact hz b off hin
  · intro ha
    simpa using hn ha
  · intro p hp _
    simpa using hp

/-- What a law owes: called with whatever can be read, it returns true and old blocks stay. -/
def Owes (f : FuncId) (ts : List TypeId) : Prop :=
  ∀ (H : Type) (enc : TypeId × Value → H) (W : World) (base : Nat) (args : Array Value) (ds : List (DataW H)) (ps : List MemPlace),
    (∀ (j : Nat) t v, ts[j]? = some t → args[j]? = some v → Value.okWide Try.prog W .any base t v) →
    DataW.TrodAll enc Try.prog W 0 (fun _ => true) true ts args.toList ds ps → (∀ x ∈ ps, x.block < W.heap.size) →
    (DataW.weightsEach Try.prog ts ds).all (· ≤ reachBytes) = true →
    Calls Try.prog f args W fun e W' => e = .returned (.bool true) ∧ Below W.heap.size W W'

/-- The same, where what is read is of bulk at most the bound of the second form. -/
def OwesUpto (f : FuncId) (ts : List TypeId) : Prop :=
  ∀ (H : Type) (enc : TypeId × Value → H) (W : World) (base : Nat) (args : Array Value) (ds : List (DataW H)) (ps : List MemPlace),
    (∀ (j : Nat) t v, ts[j]? = some t → args[j]? = some v → Value.okWide Try.prog W .any base t v) →
    DataW.TrodAll enc Try.prog W 0 (fun _ => true) true ts args.toList ds ps → (∀ x ∈ ps, x.block < W.heap.size) →
    Rows.uptoBulkAll ds ≤ 1048576 →
    Calls Try.prog f args W fun e W' => e = .returned (.bool true) ∧ Below W.heap.size W W'
set_option maxRecDepth 100000 in
theorem Owes.upto {f : FuncId} {ts : List TypeId} (h : ∀ (H : Type) (enc : TypeId × Value → H) (W : World) (base : Nat) (args : Array Value) (ds : List (DataW H)) (ps : List MemPlace),
    (∀ (j : Nat) t v, ts[j]? = some t → args[j]? = some v → Value.okWide Try.prog W .any base t v) →
    DataW.TrodAll enc Try.prog W 0 (fun _ => true) true ts args.toList ds ps → (∀ x ∈ ps, x.block < W.heap.size) →
    Calls Try.prog f args W fun e W' => e = .returned (.bool true) ∧ Below W.heap.size W W') : OwesUpto f ts :=
  fun H enc W base args ds ps h1 h2 h3 _ => h H enc W base args ds ps h1 h2 h3

theorem trodAll_len {H : Type} {enc : TypeId × Value → H} {P : Program} {W : World} {sp : Nat → Bool} : ∀ (ts : List TypeId) (vs : List Value) (ds : List (DataW H)) (ps : List MemPlace),
    DataW.TrodAll enc P W 0 sp true ts vs ds ps → ds.length = ts.length := by
  intro ts
  induction ts with
  | nil => intro vs ds ps h; cases vs <;> cases ds <;> first | rfl | exact h.elim
  | cons t ts ih =>
    intro vs ds ps h
    cases vs with
    | nil => cases ds <;> exact h.elim
    | cons v vs =>
      cases ds with
      | nil => exact h.elim
      | cons d ds => obtain ⟨_, _, _, h2, _⟩ := h; simp [ih _ _ _ h2]

theorem whole_parts {H : Type} {enc : TypeId × Value → H} {P : Program} {W : World} {ts : List TypeId} {vs : List Value} {vars : List String} (hvars : vars = []) {apart : Bool} {ds gs : List (DataW H)} {ps : List MemPlace}
    (hW : DataW.Whole enc P ts vars apart W vs ds gs ps) : gs = [] ∧ DataW.TrodAll enc P W 0 (fun _ => true) true ts vs ds ps := by
  obtain ⟨p, q, hA, hV, hpq, hfz, hnd⟩ := hW
  have hgs : gs = [] ∧ q = [] := by rw [hvars] at hV; cases gs with | nil => exact ⟨rfl, hV⟩ | cons _ _ => exact hV.elim
  obtain ⟨rfl, rfl⟩ := hgs
  rw [List.append_nil] at hpq
  subst hpq
  exact ⟨rfl, hA⟩

set_option maxRecDepth 100000 in
theorem lifted {f : FuncId} {fn : Func} {s : ChangeSpec} {tb : TypeId} {conds : List PathCond} (hf : Try.prog.funcs[f]? = some fn) (noInit : Try.prog.inits.idxOf? f = none)
    (hvars : s.vars = []) (hres : fn.resultTypes = #[tb]) (htb : Try.prog.underlying tb = some .bool) (hpar : ∀ t ∈ fn.params.toList, Try.prog.readableRec t = true ∧ t < Try.prog.types.size)
    (hs : ∀ (H : Type) (ds : List (DataW H)), ds.length = fn.params.toList.length → s.fn H ds = { results := [.lit (.bool true)], args := ds })
    (walk : Owes f fn.params.toList) (os : Os) (started : os.Started) (H : Type) (enc : TypeId × Value → H)
    (witness : ∃ (w : World) (tape : Tape) (i : Input), w.os = os ∧ (w.forCall tape i).Shaped Try.prog ∧ i.vars = [] ∧ Input.okWide Try.prog (w.forCall tape i) .any w.heap.size f i ∧
      s.pre6 enc Try.prog fn conds false (w.forCall tape i).memory i.args ∧ Assume.holds {} Try.checked.prog (lone (Frame.enter Try.prog f i.args .normal) [] (w.forCall tape i))) :
    ReturnsInHanded {} Try.checked os f .any (s.pre6 enc Try.prog fn conds false) (s.post enc Try.prog fn false true false false) := by
  refine returnsInHanded_of_change_sized (C := Try.checked) own started noInit hf witness ?_
  intro W base args ds gs before hval hW _ hsz _
  obtain ⟨rfl, hA⟩ := whole_parts hvars hW
  have hwt : (DataW.weightsEach Try.prog fn.params.toList ds).all (· ≤ reachBytes) = true := by
    have h := hsz
    have e : s.plain.varTypes Try.checked.prog = [] := by simp [ChangeSpec.plain, DataSpec.varTypes, hvars]
    rw [e, List.append_nil, List.append_nil] at h
    exact h
  refine (walk H enc W base args ds before (fun j t v ht hv => hval j t v (by simpa using ht) hv) hA (fun x hx => hW.lt x hx) hwt).mono fun e W' ⟨he, hb⟩ => ?_
  subst he
  exact ⟨_, rfl, law_post laidOut hvars hres htb hpar hA hW (by rw [List.append_nil]; exact hs H ds (trodAll_len _ _ _ _ hA)) hb⟩

set_option maxRecDepth 100000 in
theorem liftedUpto {f : FuncId} {fn : Func} {s : ChangeSpec} {tb : TypeId} {conds : List PathCond} (hf : Try.prog.funcs[f]? = some fn) (noInit : Try.prog.inits.idxOf? f = none)
    (hvars : s.vars = []) (hres : fn.resultTypes = #[tb]) (htb : Try.prog.underlying tb = some .bool) (hpar : ∀ t ∈ fn.params.toList, Try.prog.readableRec t = true ∧ t < Try.prog.types.size)
    (hs : ∀ (H : Type) (ds : List (DataW H)), ds.length = fn.params.toList.length → s.fn H ds = { results := [.lit (.bool true)], args := ds })
    (walk : OwesUpto f fn.params.toList) (os : Os) (started : os.Started) (H : Type) (enc : TypeId × Value → H) (F : Stop.Interp)
    (witness : ∃ (w : World) (tape : Tape) (i : Input), w.os = os ∧ (w.forCall tape i).Shaped Try.prog ∧ i.vars = [] ∧ Input.okWide Try.prog (w.forCall tape i) .any w.heap.size f i ∧
      (Rows.OpenSpec.upto s).pre6 enc Try.prog fn conds false (w.forCall tape i).memory i.args ∧ Assume.holds {} Try.checked.prog (lone (Frame.enter Try.prog f i.args .normal) [] (w.forCall tape i))) :
    ReturnsInHanded {} Try.checked os f .any ((Rows.OpenSpec.upto s).pre6 enc Try.prog fn conds false) (((Rows.OpenSpec.upto s).at F).post enc Try.prog fn false true false false) := by
  refine returnsInHanded_of_cond (C := Try.checked) (s := Rows.OpenSpec.upto s) (k := Rows.uptoSmall) rfl own started noInit hf witness ?_
  intro W base args ds gs before hval hW _ hk _
  obtain ⟨rfl, hA⟩ := whole_parts (vars := s.vars) hvars hW
  have hk' : Rows.uptoBulkAll ds ≤ 1048576 := by
    have h : Rows.uptoBulkAll (ds ++ []) ≤ 1048576 := of_decide_eq_true hk
    rwa [List.append_nil] at h
  refine (walk H enc W base args ds before (fun j t v ht hv => hval j t v (by simpa using ht) hv) hA (fun x hx => hW.lt x hx) hk').mono fun e W' ⟨he, hb⟩ => ?_
  subst he
  exact ⟨_, rfl, law_post (s := s) laidOut hvars hres htb hpar hA hW (by rw [List.append_nil]; exact hs H ds (trodAll_len _ _ _ _ hA)) hb⟩

theorem bulk_one {H : Type} (d : DataW H) : 1 ≤ Rows.uptoBulk d := by
  cases d with
  | lit l => cases l <;> simp [Rows.uptoBulk]
  | _ => simp [Rows.uptoBulk]
theorem bulk_len {H : Type} (l : List (DataW H)) : l.length ≤ Rows.uptoBulkAll l := by
  induction l with
  | nil => simp [Rows.uptoBulkAll]
  | cons x r ih => have := bulk_one x; simp only [Rows.uptoBulkAll, List.length_cons]; omega
theorem bulk_slice {H : Type} (l r : List (DataW H)) : l.length < Rows.uptoBulk (.slice l r) := by
  have := bulk_len l
  simp only [Rows.uptoBulk]; omega
theorem bulk_string {H : Type} (l : List UInt8) : Rows.uptoBulk (DataW.lit (H := H) (.string l)) = l.length + 1 := by
  simp [Rows.uptoBulk]
end Lift
end Go.Proofs.Ytipmphkmeiogoaa
/- Inputs: rows of rows of events; the code's check and the reference's. -/
namespace Go.Proofs.Ytipmphkmeiogoaa
open Go.ChangeShapes Go.WideShapes Go.ChangeAt Go.RowKit
set_option linter.unusedVariables false
set_option maxRecDepth 8000
namespace Jo
open Gen
open Itm
structure Ev where
  key : ByteArray
  at_ : Int
  val : Int
instance : Inhabited Ev := ⟨⟨ByteArray.empty, 0, 0⟩⟩
abbrev evL (e : Ev) : List Value := [.string e.key, .int .i64 e.at_, .int .i64 e.val]
theorem evL_len (e : Ev) : (evL e).length = 3 := rfl
def evIs (e : Ev) : Bool := okEv e.key e.at_
structure EvC (w : World) (b o : Nat) (e : Ev) : Prop where
  c0 : w.cell? ⟨b, o, none⟩ = some (.string e.key)
  c1 : w.cell? ⟨b, o + 1, none⟩ = some (.int .i64 e.at_)
  c2 : w.cell? ⟨b, o + 2, none⟩ = some (.int .i64 e.val)
theorem row_evC {w : World} {A : Option Addr} {l : List Ev} (h : Row w A (l.flatMap evL)) {k : Nat} {e : Ev} (hk : l[k]? = some e) : ∃ b off, A = some ⟨b, off, none⟩ ∧ EvC w b (off + k * 3) e := by
  obtain ⟨b, off, rfl, g⟩ := row_one evL_len (by omega) h hk
  exact ⟨b, off, rfl, g 0 _ rfl, g 1 _ rfl, g 2 _ rfl⟩
def srcOk (l : List Ev) : Bool := decide (l.length ≤ 200) && l.all evIs
/-- A source's events as a slice. -/
structure Sr where
  A : Option Addr
  c : Nat
  l : List Ev
instance : Inhabited Sr := ⟨⟨none, 0, []⟩⟩
abbrev srV (s : Sr) : Value := .slice s.A s.l.length s.c
def insOk (l : List Sr) : Bool := decide (1 ≤ l.length ∧ l.length ≤ 4) && l.all fun s => srcOk s.l
theorem all_false {α : Type} {p : α → Bool} {l : List α} {k : Nat} {x : α} (h : l[k]? = some x) (hx : p x = false) : l.all p = false := by
  rw [List.all_eq_false]
  exact ⟨x, List.mem_of_getElem? h, by simp [hx]⟩
theorem all_true {α : Type} {p : α → Bool} {l : List α} (h : ∀ (j : Nat) x, l[j]? = some x → j < l.length → p x = true) : l.all p = true := by
  rw [List.all_eq_true]
  intro x hx
  obtain ⟨i, hi⟩ := List.getElem?_of_mem hx
  exact h i x hi (List.getElem?_eq_some_iff.1 hi).1
theorem wrapJ {k : Nat} (h : k ≤ 1000) : IntKind.i64.wrap ((k : Int) + 1) = ((k + 1 : Nat) : Int) := by
  simp [IntKind.wrap, IntKind.bits, IntKind.signed]; omega
set_option maxHeartbeats 2000000 in
theorem jSource (l : List Ev) (A : Option Addr) (c : Nat) (w : World) (h : Row w A (l.flatMap evL)) (hl : l.length ≤ 9223372036854775807) :
    Calls Try.prog 65 #[.slice A l.length c] w (TellsB (srcOk l) w) := by
  have HE := Lib.hid (fun k a v w => itEvent k a v w)
  by_cases h200 : l.length ≤ 200
  · have e0 : srcOk l = l.all evIs := by unfold srcOk; rw [decide_eq_true h200, Bool.true_and]
    rw [e0]
    have HR := Lib.hid h
    have g0 : ¬ (200 : Int) < l.length := by omega
    have H2 := Lib.hid h200
    clear h hl e0 h200
    go_enter Try.func65, Try.ntmps65
    go_wp2_with fail
    go_loopw [10] (fun i wr => ∃ k : Nat, i = .int .i64 k ∧ k ≤ l.length ∧ (∀ j x, l[j]? = some x → j < k → evIs x = true) ∧ Below w.heap.size w wr) (fun i _ => l.length - (intOf i).toNat)
    case atStart => exact ⟨0, rfl, Nat.zero_le _, fun j x h h2 => by omega, Below.refl _ _⟩
    case round =>
      obtain ⟨k, rfl, hk, hto, hb⟩ := hrel
      have HB := Lib.hid hb
      have HT := Lib.hid hto
      have H3 := H2.out
      clear hb hto
      by_cases hlt : k < l.length
      · obtain ⟨x, hx⟩ : ∃ x, l[k]? = some x := ⟨_, List.getElem?_eq_getElem hlt⟩
        obtain ⟨b, off, rfl, c0, c1, c2⟩ := row_evC (HR.out.below HB.out) hx
        have HX := Lib.hid hx
        have hw := wrapJ (k := k) (by omega)
        obtain ⟨q, hq⟩ : ∃ q, q = evIs x := ⟨_, rfl⟩
        have HE1 := Lib.hid (fun w => show Calls Try.prog 80 #[evV x.key x.at_ x.val] w (TellsA q (.cells (evC x.key x.at_ x.val) 45) w) from by rw [hq]; exact HE.out x.key x.at_ x.val w)
        have HQ := Lib.hid hq
        clear hx H3 hq
        go_wp2_with fail
        refine (HE1.out _).mono ?_
        rintro e w2 ⟨rfl, rfl⟩
        have hb2 := Lib.hid (below_al (o := .cells (evC x.key x.at_ x.val) 45) (below_al (o := .cells (evC x.key x.at_ x.val) 45) HB.out))
        cases q
        · go_wp2_with fail
          go_ret
          exact ⟨jret (all_false HX.out HQ.out.symm).symm, hb2.out⟩
        · go_wp2_with fail
          go_roundw
          case rel =>
            refine ⟨k + 1, rfl, by omega, fun j y hy hj => ?_, hb2.out⟩
            rcases Nat.lt_succ_iff_lt_or_eq.1 hj with h | rfl
            · exact HT.out j y hy h
            · rw [HX.out] at hy; cases hy; exact HQ.out.symm
          case measure => simp [intOf]; omega
      · have hge : l.length ≤ k := by omega
        have er : l.all evIs = true := all_true fun j x h1 h2 => HT.out j x h1 (by omega)
        have HR2 := Lib.hid er
        clear er H3
        go_wp2_with fail
        go_ret
        exact ⟨jret HR2.out.symm, HB.out⟩
  · have e0 : srcOk l = false := by unfold srcOk; rw [decide_eq_false h200, Bool.false_and]
    rw [e0]
    have g0 : (200 : Int) < l.length := by omega
    clear h e0 h200
    go_enter Try.func65, Try.ntmps65
    go_wp2_with fail
    go_ret
    exact ⟨rfl, Below.refl _ _⟩
end Jo
end Go.Proofs.Ytipmphkmeiogoaa
