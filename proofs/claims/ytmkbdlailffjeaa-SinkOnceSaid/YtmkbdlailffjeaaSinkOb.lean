/- SinkOnce, walked. -/
import Derived.Test.YtmkbdlailffjeaaSinkOa
namespace Go.Proofs.Ytmkbdlailffjeaa
open Go.ChangeShapes Go.WideShapes Go.ChangeAt Go.RowKit
set_option linter.unusedVariables false
set_option maxRecDepth 8000
namespace Sk
open Gen (TellsB TellsI row_one flat_len flat_get Mine ownsTail)
theorem srt_gt : ∀ {l : List Pg} {b : Int}, Srt b l → ∀ x ∈ l, b < x.1
  | [], _, _, x, hx => by cases hx
  | y :: l, b, ⟨h1, h2, h3⟩, x, hx => by
    rcases List.mem_cons.1 hx with rfl | hx
    · exact h1
    · have := srt_gt h3 x hx
      omega
theorem commit_as {s : Si} {n : Int} (h : rightS s = true) (he : (commitO s n).2 = 0) : (commitO s n).1.op = s.op ∧ (commitO s n).1.st = keepO n s.st ∧ (commitO s n).1.out = s.out ++ goesO n s.st := by
  by_cases hn : n ≤ s.last
  · rw [commit_old h hn]
    obtain ⟨h1, h2⟩ := keep_all (n := n) (l := s.st) fun x hx => by have := srt_gt (right_ri h).r x hx; omega
    rw [h1, h2, List.append_nil]
    exact ⟨rfl, rfl, rfl⟩
  · cases ht : thereO n s.st with
    | true =>
      rw [commit_new h (by omega) ht]
      exact ⟨rfl, rfl, rfl⟩
    | false =>
      unfold commitO at he
      rw [if_neg (by rw [h]; exact Bool.noConfusion), if_neg hn, if_pos ht] at he
      cases he
theorem right_z : rightS zS = true := by simp [rightS, roomS, headO, zS, allO, stO]
/-- How an act ends. -/
def Done (s s2 : Si) (e : Int) (op : List Re) (st : List Pg) (out : List Re) : Prop :=
  (e = 0 ∧ op = s2.op ∧ st = s2.st ∧ out = s2.out ∧ rightS s2 = true ∧ s.last ≤ s2.last ∧ ∃ t, s2.out = s.out ++ t) ∨ (e ≠ 0 ∧ op = s.op ∧ st = s.st ∧ out = s.out)
theorem size_lst : (Try.prog.info? 45).map (·.size) = some 2 := by kernel_rfl
theorem size_lre : (Try.prog.info? 29).map (·.size) = some 5 := by kernel_rfl
theorem cut_tail (g o n c : Nat) (W : World) (hn : 1 ≤ n) : (Instr.slice 41 (.slice (some ⟨g, o, none⟩) n c) (some (.int .i64 1)) none none).run Try.prog W = .ok (.slice (some ⟨g, if c = 1 then o else o + 2, none⟩) (n - 1) (c - 1)) W := by
  obtain ⟨it0, hit0, hit1⟩ := Option.map_eq_some_iff.1 size_lst
  have hsz : (sizeOf 45).run Try.prog W = .ok 2 W := by simp [sizeOf, typeInfo, hit0, hit1]
  have he : Try.prog.elem 41 = 45 := by kernel_rfl
  have h := run_slice_l (P := Try.prog) (w := W) 41 (some ⟨g, o, none⟩) n c Try.underlying41 .i64 1 (by omega) (by omega)
  rw [h, he, hsz]
  by_cases e : c = 1
  · simp [sliced, e, Result.andThen]
  · simp [sliced, e, Result.andThen, Addr.add]
theorem cut_head (A : Option Addr) (n c m : Nat) (W : World) (hm : m ≤ c) : (Instr.slice 22 (.slice A n c) none (some (.int .i64 (m : Int))) none).run Try.prog W = .ok (.slice A m c) W := by
  obtain ⟨it0, hit0, hit1⟩ := Option.map_eq_some_iff.1 size_lre
  have hsz : (sizeOf 29).run Try.prog W = .ok 5 W := by simp [sizeOf, typeInfo, hit0, hit1]
  have he : Try.prog.elem 22 = 29 := by kernel_rfl
  have h := run_slice_h (P := Try.prog) (w := W) 22 A n c Try.underlying22 .i64 (m : Int) (by omega) (by omega)
  rw [h, he, hsz]
  rcases A with _ | ⟨b, o, sp⟩
  · simp [sliced, Result.andThen]
  · by_cases e : c = 0
    · simp [sliced, e, Result.andThen]
    · simp [sliced, e, Result.andThen, Addr.add]
/-- An act: what, n, the result. -/
abbrev Ac := Int × Int × Re
def acL (x : Ac) : List Value := .int .i64 x.1 :: .int .i64 x.2.1 :: reL x.2.2
theorem acL_len (x : Ac) : (acL x).length = 7 := rfl
abbrev acC (x : Ac) : Array Value := #[.int .i64 x.1, .int .i64 x.2.1, .int .i64 x.2.2.lo, .int .i64 x.2.2.hi, .string x.2.2.k, .int .i64 x.2.2.n, .int .i64 x.2.2.v]
def lenV : Value → Nat
  | .slice _ n _ => n
  | _ => 0
set_option maxRecDepth 100000 in
set_option maxHeartbeats 4000000 in
theorem walkOnce (l : List Ac) (n : Nat) (hn : n = l.length) (A : Option Addr) (c : Nat) (w : World) (hA : Row w A (l.flatMap acL)) (hl : n ≤ maxLen) :
    Calls Try.prog 5 #[.slice A n c] w (TellsB true w) := by
  obtain ⟨i1, hj0, hy0, hy1, hy2⟩ := info_partsK InfoT
  have HJ0 := Lib.hid hj0; have HY0 := Lib.hid hy0; have HY1 := Lib.hid hy1; have HY2 := Lib.hid hy2
  obtain ⟨i0, hi0, hz0, hz1, hz2⟩ := info_partsK InfoR
  have HI0 := Lib.hid hi0; have HZ0 := Lib.hid hz0; have HZ1 := Lib.hid hz1; have HZ2 := Lib.hid hz2
  have HA := Lib.hid hA
  have HN := Lib.hid hn
  have HL := Lib.hid hl
  have HAL := Lib.hid (fun w' => lawAlive w')
  have hb0 := below_al (o := .cells (skC none 0 0 none 0 0 0 none 0 0) 25) (Below.refl w.heap.size w)
  have hl0 := Lies.new w (skC none 0 0 none 0 0 0 none 0 0) 25
  have T0 : Hid (OnAt w w.heap.size zS 0 0 0 none 0 none 0 none 0 (.slice none 0 0) (.slice none 0 0) (.slice none 0 0) [] (w.alloc (.cells (skC none 0 0 none 0 0 0 none 0 0) 25))) := Lib.hid
    ⟨hl0, zero_at _ _, ⟨own_none, own_none, Gen.tail_nil, fun x hx => (by cases hx), fun x hx => (by cases hx), fun q h1 => (by cases h1), rfl, fun b hb => by subst hb; exact ⟨_, hl0⟩, fun b hb => by rw [hb]; exact Nat.le_refl _⟩, right_z, hb0⟩
  clear hj0 hy0 hy1 hy2 hi0 hz0 hz1 hz2 hA hn hl hb0 hl0
  go_enter Try.func5, Try.ntmps5
  go_upto_region 4 with fail
  obtain ⟨b3, hb3⟩ : ∃ b, b = w.heap.size := ⟨_, rfl⟩
  obtain ⟨W, hW⟩ : ∃ W, W = w.alloc (.cells (skC none 0 0 none 0 0 0 none 0 0) 25) := ⟨_, rfl⟩
  rw [← hW] at T0 ⊢
  rw [show OnAt w w.heap.size = OnAt w b3 by rw [hb3]] at T0
  rw [← hb3]
  clear hW hb3
  go_wp2_with fail
  go_loopw [4, 5, 6, 13] (fun s4 s5 s6 s13 wr => ∃ (i : Nat) (s : Si) (no ns nu : Nat) (O : Option Addr) (cO : Nat) (S : Option Addr) (cS : Nat) (U : Option Addr) (cU : Nat) (tg : List Sg), s13 = .int .i64 i ∧ i ≤ n ∧ i ≤ 200 ∧ OnAt w b3 s no ns nu O cO S cS U cU s4 s5 s6 tg wr) (fun _ _ _ s13 _ => n - (intOf s13).toNat)
  case atStart => exact ⟨0, zS, 0, 0, 0, none, 0, none, 0, none, 0, [], rfl, Nat.zero_le _, Nat.zero_le _, T0.out⟩
  case round =>
    clear T0
    obtain ⟨i, s, no, ns, nu, O, cO, S, cS, U, cU, tg, rfl, hi, hi2, hat⟩ := hrel
    obtain ⟨vO, hvO⟩ : ∃ v, v = u4 := ⟨_, rfl⟩
    obtain ⟨vU, hvU⟩ : ∃ v, v = u5 := ⟨_, rfl⟩
    obtain ⟨vT, hvT⟩ : ∃ v, v = u6 := ⟨_, rfl⟩
    subst hvO hvU hvT
    have AT := Lib.hid hat
    have HI2 := Lib.hid hi2
    clear hat hi2
    by_cases hlt : i < n
    · obtain ⟨⟨wh, N, rr⟩, hx⟩ : ∃ x, l[i]? = some x := ⟨_, List.getElem?_eq_getElem (by rw [← HN.out]; exact hlt)⟩
      obtain ⟨q, off, rfl, c0⟩ := row_one acL_len (by omega) (HA.out.below AT.out.below) hx
      have c00 := c0 0 _ rfl; have c01 := c0 1 _ rfl; have c02 := c0 2 _ rfl; have c03 := c0 3 _ rfl; have c04 := c0 4 _ rfl; have c05 := c0 5 _ rfl; have c06 := c0 6 _ rfl
      rw [Nat.add_zero] at c00
      have hki : (i : Int) < (n : Int) := by omega
      have hwi := wrapKS (k := i) (by have := HI2.out; omega)
      have HK := Lib.hid hlt
      clear hx c0 hlt hi
      simp only at c00 c01 c02 c03 c04 c05 c06
      go_upto_region 7 with fail
      have hb8 := below_al (o := .cells (acC (wh, N, rr)) 43) (Below.refl wr.heap.size wr)
      have AT := Lib.hid (AT.out.next hb8)
      have L8 := Lib.hid (Lies.new wr (acC (wh, N, rr)) 43)
      obtain ⟨b8, hb8e⟩ : ∃ b, b = wr.heap.size := ⟨_, rfl⟩
      obtain ⟨W8, hW8⟩ : ∃ W, W = wr.alloc (.cells (acC (wh, N, rr)) 43) := ⟨_, rfl⟩
      rw [← hW8] at AT L8 ⊢
      rw [← hb8e] at L8 ⊢
      clear hW8 hb8e hb8 c00 c01 c02 c03 c04 c05 c06
      by_cases h200 : i < 200
      · have gi : decide ((200 : Int) ≤ (i : Int)) = false := decide_eq_false (by omega)
        have gin : decide (200 ≤ i) = false := decide_eq_false (by omega)
        have HI3 := Lib.hid h200
        have HRS := Lib.hid AT.out.ri
        have HRI := Lib.hid (right_ri AT.out.ri)
        have HLIM := Lib.hid (right_fit AT.out.ri).bd.lim
        clear h200
        go_upto_region 10 with fail
        have hb9 := below_al (o := .cells (skC none 0 0 none 0 0 0 none 0 0) 25) (Below.refl W8.heap.size W8)
        have ME := Lib.hid AT.out.open_
        have LA := Lib.hid (L8.out.below hb9)
        have HN8 : Hid (b8 ≠ W8.heap.size) := Lib.hid (by have := lt_of_block L8.out; omega)
        obtain ⟨b9, hb9e⟩ : ∃ b, b = W8.heap.size := ⟨_, rfl⟩
        obtain ⟨W9, hW9⟩ : ∃ W, W = W8.alloc (.cells (skC none 0 0 none 0 0 0 none 0 0) 25) := ⟨_, rfl⟩
        rw [← hW9] at ME LA ⊢
        rw [← hb9e] at ME HN8 ⊢
        clear hW9 hb9e hb9 AT L8
        have a0 := LA.out.cell (j := 0) rfl
        go_upto_block 2 with fail
        clear a0
        go_cut [4, 5, 6, 10] from 14 to 133 (fun s4 s5 s6 s10 wc => ∃ (e : Int) (s2 : Si) (no2 ns2 nu2 : Nat) (O2 : Option Addr) (cO2 : Nat) (S2 : Option Addr) (cS2 : Nat) (U2 : Option Addr) (cU2 : Nat) (op : List Re) (st : List Pg) (out : List Re) (tg2 : List Sg), s10 = .int .i64 e ∧ MeAt w b3 b9 s no ns nu O cO S cS U cU s2 no2 ns2 nu2 O2 cO2 S2 cS2 U2 cU2 s4 s5 s6 op st out tg2 wc ∧ Done s s2 e op st out)
        case first =>
          have x0 := ME.out.l3.cell (j := 0) rfl; have x1 := ME.out.l3.cell (j := 1) rfl; have x2 := ME.out.l3.cell (j := 2) rfl; have x3 := ME.out.l3.cell (j := 3) rfl
          have a0 := LA.out.cell (j := 0) rfl; have a1 := LA.out.cell (j := 1) rfl; have a2 := LA.out.cell (j := 2) rfl; have a3 := LA.out.cell (j := 3) rfl; have a4 := LA.out.cell (j := 4) rfl; have a5 := LA.out.cell (j := 5) rfl; have a6 := LA.out.cell (j := 6) rfl
          by_cases h0 : wh = 0
          · have g0 : (wh == 0) = true := eq_b h0
            clear h0
            have HC := Lib.hid (ckAddM ME.out.sk HLIM.out ME.out.lt rr)
            go_wp2_with fail
            refine HC.out.mono ?_
            rintro e5 w5 ⟨no2, ns2, nu2, O2, cO2, S2, cS2, U2, cU2, rfl, hk2, hb5⟩
            have E5 := Lib.hid (ME.out.got hb5 hk2)
            have L5 := Lib.hid (ME.out.l9.below hb5)
            have LA := Lib.hid ((((LA.out.below hb5).other HN8.out 0 (.slice O2 no2 cO2)).other HN8.out 1 (.slice S2 ns2 cS2)).other HN8.out 2 (.int .i64 (addO s rr).1.last))
            have LA := Lib.hid (LA.out.other HN8.out 3 (.slice U2 nu2 cU2))
            clear hk2 hb5 HC x0 x1 x2 x3 a0 a1 a2 a3 a4 a5 a6
            obtain ⟨⟨s2, e2⟩, ho2⟩ : ∃ o, o = addO s rr := ⟨_, rfl⟩
            rw [← ho2] at E5 LA ⊢
            have HO2 := Lib.hid ho2
            clear ho2
            simp only at E5 LA ⊢
            have z0 := L5.out.free 0; have z1 := L5.out.free 1; have z2 := L5.out.free 2; have z3 := L5.out.free 3
            have q0 := L5.out.cell (j := 0) rfl; have q1 := L5.out.cell (j := 1) rfl; have q2 := L5.out.cell (j := 2) rfl; have q3 := L5.out.cell (j := 3) rfl
            go_upto_region 16 with fail
            obtain ⟨W6, hW6⟩ : ∃ W, W = set4K w5 b9 (.slice O2 no2 cO2) (.slice S2 ns2 cS2) (.int .i64 s2.last) (.slice U2 nu2 cU2) := ⟨_, rfl⟩
            rw [← hW6] at E5
            unfold set4K at hW6
            rw [← hW6] at LA ⊢
            clear hW6 z0 z1 z2 z3 q0 q1 q2 q3 L5
            by_cases he : e2 = 0
            · have ge : (e2 == 0) = true := eq_b he
              subst he
              obtain ⟨hs1, hs2⟩ := add_ok (s := s) (r := rr) (by rw [← HO2.out])
              have hs3 : s2 = ⟨s.op ++ [rr], s.st, s.last, s.out⟩ := by have := HO2.out.trans hs1; exact congrArg Prod.fst this
              have HS2 := Lib.hid hs3; have HRT := Lib.hid hs2
              clear hs1 hs2 hs3
              have y2 := LA.out.cell (j := 2) rfl; have y3 := LA.out.cell (j := 3) rfl; have y4 := LA.out.cell (j := 4) rfl; have y5 := LA.out.cell (j := 5) rfl; have y6 := LA.out.cell (j := 6) rfl
              go_wp2_with (at_builtin; refine hold_mk ?_)
              refine hold_out ?_
              have hro := one_rowR W6 rr
              have E7 := Lib.hid (E5.out.next (below_al (o := .cells (reC rr) 29) (Below.refl W6.heap.size W6)))
              refine wpPushR rfl _ _ rfl _ s.op rfl rfl E7.out.ow.oo E7.out.below.size _ 1 rr rfl hro (by have := HRI.out.c; omega) ?_
              intro v9 w9 bt9 hg9 hl9
              obtain ⟨V9, c9, rfl, _⟩ := own_form bt9 (by omega)
              have E9 := Lib.hid (E7.out.pushO hg9 bt9 hl9)
              clear bt9 hg9 hl9 hro y2 y3 y4 y5 y6 E7 E5
              go_wp2_with fail
              go_meet
              case rel => exact ⟨0, s2, no2, ns2, nu2, O2, cO2, S2, cS2, U2, cU2, _, _, _, tg, rfl, E9.out, .inl ⟨rfl, by rw [HS2.out], by rw [HS2.out], by rw [HS2.out], by rw [HS2.out]; exact HRT.out, by rw [HS2.out]; exact Int.le_refl _, [], by rw [HS2.out, List.append_nil]⟩⟩
            · have ge : (e2 == 0) = false := ne_b he
              have HE := Lib.hid he
              clear he
              go_wp2_with fail
              go_meet
              case rel => exact ⟨e2, s2, no2, ns2, nu2, O2, cO2, S2, cS2, U2, cU2, _, _, _, tg, rfl, E5.out, .inr ⟨HE.out, rfl, rfl, rfl⟩⟩
          have g0 : (wh == 0) = false := ne_b h0
          by_cases h1 : wh = 1
          · have g1 : (wh == 1) = true := eq_b h1
            clear h0 h1
            have HC := Lib.hid (ckStageM ME.out.sk HLIM.out ME.out.lt N)
            go_wp2_with fail
            refine HC.out.mono ?_
            rintro e5 w5 ⟨no2, ns2, nu2, O2, cO2, S2, cS2, U2, cU2, rfl, hk2, hb5⟩
            have E5 := Lib.hid (ME.out.got hb5 hk2)
            have L5 := Lib.hid (ME.out.l9.below hb5)
            have LA := Lib.hid ((((LA.out.below hb5).other HN8.out 0 (.slice O2 no2 cO2)).other HN8.out 1 (.slice S2 ns2 cS2)).other HN8.out 2 (.int .i64 (stageO s N).1.last))
            have LA := Lib.hid (LA.out.other HN8.out 3 (.slice U2 nu2 cU2))
            clear hk2 hb5 HC x0 x1 x2 x3 a0 a1 a2 a3 a4 a5 a6
            obtain ⟨⟨s2, e2⟩, ho2⟩ : ∃ o, o = stageO s N := ⟨_, rfl⟩
            rw [← ho2] at E5 LA ⊢
            have HO2 := Lib.hid ho2
            clear ho2
            simp only at E5 LA ⊢
            have z0 := L5.out.free 0; have z1 := L5.out.free 1; have z2 := L5.out.free 2; have z3 := L5.out.free 3
            have q0 := L5.out.cell (j := 0) rfl; have q1 := L5.out.cell (j := 1) rfl; have q2 := L5.out.cell (j := 2) rfl; have q3 := L5.out.cell (j := 3) rfl
            go_upto_region 20 with fail
            obtain ⟨W6, hW6⟩ : ∃ W, W = set4K w5 b9 (.slice O2 no2 cO2) (.slice S2 ns2 cS2) (.int .i64 s2.last) (.slice U2 nu2 cU2) := ⟨_, rfl⟩
            rw [← hW6] at E5
            unfold set4K at hW6
            rw [← hW6] at LA ⊢
            clear hW6 z0 z1 z2 z3 q0 q1 q2 q3 L5
            by_cases he : e2 = 0
            · have ge : (e2 == 0) = true := eq_b he
              subst he
              obtain ⟨hs1, hs2⟩ := stage_ok (s := s) (n := N) (by rw [← HO2.out])
              have hs3 : s2 = ⟨[], s.st ++ [(N, s.op)], s.last, s.out⟩ := by have := HO2.out.trans hs1; exact congrArg Prod.fst this
              have HS2 := Lib.hid hs3; have HRT := Lib.hid hs2
              clear hs1 hs2 hs3
              obtain ⟨Ao, co, ev, _⟩ := own_form E5.out.ow.oo (by omega)
              obtain ⟨At, ct, et, _⟩ := Gen.tail_slice E5.out.ow.ot
              subst ev et
              have y1 := LA.out.cell (j := 1) rfl
              go_wp2_with (at_builtin; refine hold_mk ?_)
              refine hold_out ?_
              have E7 := Lib.hid (E5.out.next (below_al (o := .cells #[.int .i64 N, .slice Ao s.op.length co] 45) (Below.refl W6.heap.size W6)))
              refine Gen.wpList_append_tail rfl _ _ 41 rfl w.heap.size 45 i1 _ 2 32 Try.underlying41 HJ0.out HY0.out HY1.out HY2.out rfl (by omega) _ s.st.length (sgc tg) rfl E7.out.ow.ot ⟨W6.heap.size, 0, none⟩ 1 1 (sgL (N, Ao, co, s.op)) rfl rfl ?_ ?_ (by have := HRI.out.t; unfold maxLen; omega) (by have := HRI.out.t; omega) E7.out.below.size ?_
              · intro j u hu
                rw [Go.WideShapes.add_plain, Nat.zero_add]
                exact (Lies.new W6 #[.int .i64 N, .slice Ao s.op.length co] 45).cell (by simpa using hu)
              · intro u hu
                exact onesG [(N, Ao, co, s.op)] u (by simpa [sgc] using hu)
              intro v9 w9 bt9 hg9 hl9
              have bt9 : ownsTail w9 w.heap.size 45 2 v9 (s.st.length + 1) (sgc (tg ++ [(N, Ao, co, s.op)])) := by rw [appG]; simpa [sgc] using bt9
              obtain ⟨V9, c9, e9, _⟩ := Gen.tail_slice bt9
              subst e9
              have E9 := Lib.hid (E7.out.pushT hg9 bt9 hl9)
              clear bt9 hg9 hl9 y1 E7 E5
              go_wp2_with fail
              go_meet
              case rel => exact ⟨0, s2, no2, ns2, nu2, O2, cO2, S2, cS2, U2, cU2, _, _, _, _, rfl, E9.out, .inl ⟨rfl, by rw [HS2.out], by rw [HS2.out], by rw [HS2.out], by rw [HS2.out]; exact HRT.out, by rw [HS2.out]; exact Int.le_refl _, [], by rw [HS2.out, List.append_nil]⟩⟩
            · have ge : (e2 == 0) = false := ne_b he
              have HE := Lib.hid he
              clear he
              go_wp2_with fail
              go_meet
              case rel => exact ⟨e2, s2, no2, ns2, nu2, O2, cO2, S2, cS2, U2, cU2, _, _, _, tg, rfl, E5.out, .inr ⟨HE.out, rfl, rfl, rfl⟩⟩
          have g1 : (wh == 1) = false := ne_b h1
          by_cases h2 : wh = 2
          · have g2 : (wh == 2) = true := eq_b h2
            clear h0 h1 h2
            have HC := Lib.hid (ckCommitM ME.out.sk HLIM.out ME.out.lt N)
            go_wp2_with fail
            refine HC.out.mono ?_
            rintro e5 w5 ⟨no2, ns2, nu2, O2, cO2, S2, cS2, U2, cU2, rfl, hk2, hb5⟩
            have E5 := Lib.hid (ME.out.got hb5 hk2)
            have L5 := Lib.hid (ME.out.l9.below hb5)
            have LA := Lib.hid ((((LA.out.below hb5).other HN8.out 0 (.slice O2 no2 cO2)).other HN8.out 1 (.slice S2 ns2 cS2)).other HN8.out 2 (.int .i64 (commitO s N).1.last))
            have LA := Lib.hid (LA.out.other HN8.out 3 (.slice U2 nu2 cU2))
            clear hk2 hb5 HC x0 x1 x2 x3 a0 a1 a2 a3 a4 a5 a6
            obtain ⟨⟨s2, e2⟩, ho2⟩ : ∃ o, o = commitO s N := ⟨_, rfl⟩
            rw [← ho2] at E5 LA ⊢
            have HO2 := Lib.hid ho2
            clear ho2
            simp only at E5 LA ⊢
            have z0 := L5.out.free 0; have z1 := L5.out.free 1; have z2 := L5.out.free 2; have z3 := L5.out.free 3
            have q0 := L5.out.cell (j := 0) rfl; have q1 := L5.out.cell (j := 1) rfl; have q2 := L5.out.cell (j := 2) rfl; have q3 := L5.out.cell (j := 3) rfl
            go_upto_region 25 with fail
            obtain ⟨W6, hW6⟩ : ∃ W, W = set4K w5 b9 (.slice O2 no2 cO2) (.slice S2 ns2 cS2) (.int .i64 s2.last) (.slice U2 nu2 cU2) := ⟨_, rfl⟩
            rw [← hW6] at E5
            unfold set4K at hW6
            rw [← hW6] at LA ⊢
            clear hW6 z0 z1 z2 z3 q0 q1 q2 q3 L5
            by_cases he : e2 = 0
            · have ge : (e2 == 0) = true := eq_b he
              subst he
              have HCO := Lib.hid (commit_ok (s := s) (n := N) (by rw [← HO2.out]))
              have HCA := Lib.hid (commit_as (s := s) (n := N) HRS.out (by rw [← HO2.out]))
              rw [← HO2.out] at HCO HCA
              simp only at HCO HCA
              go_wp2_with fail
              go_loopw [5, 6] (fun s5 s6 wr => ∃ (st1 : List Pg) (out1 : List Re) (tg1 : List Sg) (b : Int), MeAt w b3 b9 s no ns nu O cO S cS U cU s2 no2 ns2 nu2 O2 cO2 S2 cS2 U2 cU2 vO s5 s6 s.op st1 out1 tg1 wr ∧ Lies b8 (acC (wh, N, rr)) 43 wr ∧ lenV s6 = st1.length ∧ keepO N st1 = keepO N s.st ∧ out1 ++ goesO N st1 = s.out ++ goesO N s.st ∧ Srt b st1 ∧ out1.length + cnt st1 ≤ 20000) (fun _ s6 _ => lenV s6)
              case atStart =>
                obtain ⟨At, ct, et, _⟩ := Gen.tail_slice E5.out.ow.ot
                exact ⟨s.st, s.out, tg, s.last, E5.out, LA.out, by rw [et]; rfl, rfl, rfl, HRI.out.r, by have := HRI.out.c; omega⟩
              case round =>
                clear E5 LA
                obtain ⟨st1, out1, tg1, b, he1, hla, hln, hk1, hk2, hk3, hk4⟩ := hrel
                have E5 := Lib.hid he1; have LA := Lib.hid hla; have HK1 := Lib.hid hk1; have HK2 := Lib.hid hk2; have HK3 := Lib.hid hk3; have HK4 := Lib.hid hk4
                obtain ⟨At, ct, et, _⟩ := Gen.tail_slice E5.out.ow.ot
                obtain ⟨m, hm⟩ : ∃ m, m = st1.length := ⟨_, rfl⟩
                have HM := Lib.hid hm
                rw [← hm] at et
                subst et
                clear he1 hla hln hk1 hk2 hk3 hk4 hm
                rcases st1 with _ | ⟨⟨N1, l1⟩, r1⟩
                · have e0 : m = 0 := HM.out
                  subst e0
                  have gd : decide ((0 : Int) < 0) = false := by decide
                  go_wp2_with fail
                  go_quiet (fail)
                  go_wp2_with fail
                  go_meet
                  case rel => exact ⟨0, s2, no2, ns2, nu2, O2, cO2, S2, cS2, U2, cU2, _, _, _, _, rfl, E5.out.next (below_drewN (Below.refl _ _)), .inl ⟨rfl, HCA.out.1.symm, by rw [HCA.out.2.1, ← HK1.out]; rfl, by rw [HCA.out.2.2, ← HK2.out]; simp [goesO], HCO.out.2.1, HCO.out.2.2.2.1, HCO.out.2.2.2.2⟩⟩
                · have hmp := E5.out.ow.map
                  rcases tg1 with _ | ⟨⟨N2, A1, c1, l2⟩, tr⟩
                  · cases hmp
                  simp only [List.map_cons, List.cons.injEq, pgOf, Prod.mk.injEq] at hmp
                  obtain ⟨⟨rfl, rfl⟩, -⟩ := hmp
                  have hot := E5.out.ow.ot
                  obtain ⟨g, o, ct', ev, _, _, _, hcl⟩ := Gen.tail_open hot (Nat.succ_pos _)
                  obtain ⟨hA1, -, hC1⟩ := Value.slice.inj ev
                  subst hA1
                  subst hC1
                  have d0 : wr.cell? ⟨g, o, none⟩ = some (.int .i64 N2) := by simpa using hcl 0 _ rfl
                  obtain ⟨k1, hk1⟩ : ∃ k, k = l2.length := ⟨_, rfl⟩
                  have d1 : wr.cell? ⟨g, o + 1, none⟩ = some (.slice A1 k1 c1) := by rw [hk1]; exact hcl 1 _ rfl
                  have HK7 := Lib.hid hk1
                  have hm1 : m = r1.length + 1 := HM.out
                  have gd : decide ((0 : Int) < (m : Int)) = true := decide_eq_true (by omega)
                  have gdn : decide (0 < m) = true := decide_eq_true (by omega)
                  have gx : (0 : Int) < (m : Int) := by omega
                  have HM1 := Lib.hid hm1
                  have y1 := LA.out.cell (j := 1) rfl
                  clear hot ev hcl hm1 hk1
                  by_cases hle : N2 ≤ N
                  · have gl : decide (N2 ≤ N) = true := decide_eq_true hle
                    obtain ⟨hkn1, hkn2⟩ := keep_no (n := N) (x := (N2, l2)) (l := r1) hle
                    have HKN := Lib.hid hkn1; have HKN2 := Lib.hid hkn2
                    clear hle hkn1 hkn2
                    go_wp2_with fail
                    go_quiet (fail)
                    go_upto_region 27 with fail
                    have hbd := below_drewN (n := nq) (Below.refl wr.heap.size wr)
                    have E7 := Lib.hid (E5.out.next hbd); have LA := Lib.hid (LA.out.below hbd)
                    have d1 := Gen.cell_below d1 hbd
                    obtain ⟨W7, hW7⟩ : ∃ W, W = wr.drewN nq := ⟨_, rfl⟩
                    rw [← hW7] at E7 LA d1 ⊢
                    clear hW7 hbd E5 d0 y1
                    go_wp2_with (at_builtin; refine hold_mk ?_)
                    refine hold_out ?_
                    refine Gen.wpAppRow rfl _ _ 22 rfl w.heap.size 29 i0 _ 5 48 Try.underlying22 HI0.out HZ0.out HZ1.out HZ2.out rfl (by omega) _ out1.length (rec_ out1) rfl E7.out.ow.ou A1 k1 c1 (rec_ l2) rfl (E7.out.ow.oe _ (List.mem_cons_self ..)) (by rw [lenR, HK7.out]) (onesR _)
                      (by have := HK4.out; rw [cnt_cons] at this; simp only at this; have := HK7.out; unfold maxLen; omega) (by have := HK4.out; rw [cnt_cons] at this; simp only at this; have := HK7.out; omega) E7.out.below.size ?_
                    intro v9 w9 bt9 hg9 hl9
                    obtain ⟨V9, c9, e9, _⟩ := own_form bt9 (by omega)
                    subst e9
                    obtain ⟨o2, ho2⟩ : ∃ o2, o2 = if ct = 1 then o else o + 2 := ⟨_, rfl⟩
                    have hcut : ∀ W, (Instr.slice 41 (.slice (some ⟨g, o, none⟩) m ct) (some (.int .i64 1)) none none).run Try.prog W = .ok (.slice (some ⟨g, o2, none⟩) (m - 1) (ct - 1)) W := fun W => by rw [ho2]; exact cut_tail g o m ct W (by have := HM1.out; omega)
                    have hE := E7.out
                    rw [HM1.out] at hE
                    have hE9 := hE.take_ (o2 := o2) (by rw [ho2]; split <;> omega) hg9 (by rw [← HK7.out]; exact bt9) hl9
                    rw [show r1.length = m - 1 by have := HM1.out; omega] at hE9
                    have E9 := Lib.hid hE9
                    have LA := Lib.hid (lies_grown LA.out hg9 (own_lies E7.out.ow.ou LA.out (by decide)))
                    clear bt9 hg9 hl9 d1 hE hE9 ho2 E7
                    go_wp2_with fail
                    go_roundw
                    case rel => exact ⟨r1, out1 ++ l2, tr, N2, E9.out, LA.out, by show m - 1 = r1.length; have := HM1.out; omega, by rw [← HKN.out]; exact HK1.out, by rw [List.append_assoc, ← HKN2.out]; exact HK2.out, HK3.out.2.2, by have := HK4.out; rw [cnt_cons] at this; simp only at this; rw [List.length_append]; omega⟩
                    case measure => simp [lenV]; have := HM1.out; omega
                  · have gl : decide (N2 ≤ N) = false := decide_eq_false hle
                    obtain ⟨hka1, hka2⟩ := keep_all (n := N) (l := (N2, l2) :: r1) (fun x hx => by
                      rcases List.mem_cons.1 hx with rfl | hx
                      · simp only; omega
                      · have := srt_gt HK3.out.2.2 x hx; omega)
                    have HKA := Lib.hid hka1; have HKB := Lib.hid hka2
                    clear hle hka1 hka2
                    go_wp2_with fail
                    go_quiet (fail)
                    go_wp2_with fail
                    go_meet
                    case rel => exact ⟨0, s2, no2, ns2, nu2, O2, cO2, S2, cS2, U2, cU2, _, _, _, _, rfl, E5.out.next (below_drewN (Below.refl _ _)), .inl ⟨rfl, HCA.out.1.symm, by rw [HCA.out.2.1, ← HK1.out, HKA.out], by rw [HCA.out.2.2, ← HK2.out, HKB.out, List.append_nil], HCO.out.2.1, HCO.out.2.2.2.1, HCO.out.2.2.2.2⟩⟩
            · have ge : (e2 == 0) = false := ne_b he
              have HE := Lib.hid he
              clear he
              go_wp2_with fail
              go_meet
              case rel => exact ⟨e2, s2, no2, ns2, nu2, O2, cO2, S2, cS2, U2, cU2, _, _, _, tg, rfl, E5.out, .inr ⟨HE.out, rfl, rfl, rfl⟩⟩
          have g2 : (wh == 2) = false := ne_b h2
          clear h0 h1 h2
          have HC := Lib.hid (ckAbortM ME.out.sk HLIM.out ME.out.lt)
          go_wp2_with fail
          refine HC.out.mono ?_
          rintro e5 w5 ⟨no2, ns2, nu2, O2, cO2, S2, cS2, U2, cU2, rfl, hk2, hb5⟩
          have E5 := Lib.hid (ME.out.got hb5 hk2)
          have L5 := Lib.hid (ME.out.l9.below hb5)
          have LA := Lib.hid ((((LA.out.below hb5).other HN8.out 0 (.slice O2 no2 cO2)).other HN8.out 1 (.slice S2 ns2 cS2)).other HN8.out 2 (.int .i64 (abortO s).1.last))
          have LA := Lib.hid (LA.out.other HN8.out 3 (.slice U2 nu2 cU2))
          clear hk2 hb5 HC x0 x1 x2 x3 a0 a1 a2 a3 a4 a5 a6
          obtain ⟨⟨s2, e2⟩, ho2⟩ : ∃ o, o = abortO s := ⟨_, rfl⟩
          rw [← ho2] at E5 LA ⊢
          have HO2 := Lib.hid ho2
          clear ho2
          simp only at E5 LA ⊢
          have z0 := L5.out.free 0; have z1 := L5.out.free 1; have z2 := L5.out.free 2; have z3 := L5.out.free 3
          have q0 := L5.out.cell (j := 0) rfl; have q1 := L5.out.cell (j := 1) rfl; have q2 := L5.out.cell (j := 2) rfl; have q3 := L5.out.cell (j := 3) rfl
          go_upto_region 12 with fail
          obtain ⟨W6, hW6⟩ : ∃ W, W = set4K w5 b9 (.slice O2 no2 cO2) (.slice S2 ns2 cS2) (.int .i64 s2.last) (.slice U2 nu2 cU2) := ⟨_, rfl⟩
          rw [← hW6] at E5
          unfold set4K at hW6
          rw [← hW6] at LA ⊢
          clear hW6 z0 z1 z2 z3 q0 q1 q2 q3 L5
          have hs1 := abort_eq HRS.out
          have hs4 := HO2.out.trans hs1
          simp only [Prod.mk.injEq] at hs4
          obtain ⟨hs3, rfl⟩ := hs4
          have HS2 := Lib.hid hs3; have HRT := Lib.hid (abort_right HRS.out)
          clear hs1 hs3
          have E9 := Lib.hid E5.out.drop_
          clear E5
          go_wp2_with fail
          go_meet
          case rel => exact ⟨0, s2, no2, ns2, nu2, O2, cO2, S2, cS2, U2, cU2, _, _, _, _, rfl, E9.out, .inl ⟨rfl, by rw [HS2.out], by rw [HS2.out], by rw [HS2.out], by rw [HS2.out]; exact HRT.out, by rw [HS2.out]; exact Int.le_refl _, [], by rw [HS2.out, List.append_nil]⟩⟩
        case rest =>
          clear ME LA
          obtain ⟨e, s2, no2, ns2, nu2, O2, cO2, S2, cS2, U2, cU2, op, st, out, tg2, rfl, hme, hdn⟩ := hcut
          rcases hdn with ⟨rfl, rfl, rfl, rfl, hr2, hla, t, ht⟩ | ⟨he, rfl, rfl, rfl⟩
          · have E := Lib.hid hme
            have HR2 := Lib.hid hr2
            have HT := Lib.hid ht
            have hn1 := hme.sk.at_.len.2.2
            have hn2 := hme.sk2.at_.len.2.2
            have hle : nu ≤ nu2 := by rw [hn1, hn2, ht, List.length_append]; omega
            have HB1 := Lib.hid (right_fit HRS.out).bd
            have HN1 := Lib.hid hn1
            have HLR := Lib.hid (fun w5 (h5 : MeAt w b3 b9 s no ns nu O cO S cS U cU s2 no2 ns2 nu2 O2 cO2 S2 cS2 U2 cU2 u4 u5 u6 s2.op s2.st s2.out tg2 w5) => (by
              obtain ⟨sg, k1⟩ := h5.sk.at_
              obtain ⟨sg2, k2⟩ := h5.sk2.at_
              refine rfLikeRes s.out nu HN1.out (by rw [HN1.out]; have := HB1.out.u; omega) U2 U cU2 cU w5 ?_ k1.ru
              have := Gen.row_take reL_len k2.ru nu
              rwa [HT.out, HN1.out, List.take_left] at this : Calls Try.prog 21 #[.slice U2 nu cU2, .slice U nu cU] w5 (TellsB true w5)))
            have hsl : ∀ W, (Instr.slice 22 (.slice U2 nu2 cU2) none (some (.int .i64 (nu : Int))) none).run Try.prog W = .ok (.slice U2 nu cU2) W := fun W => cut_head U2 nu2 cU2 nu W (by obtain ⟨sg2, k2, _⟩ := hme.sk2; have := k2.cu; omega)
            have g1 : decide (s2.last < s.last) = false := decide_eq_false (by omega)
            have g2 : decide ((nu2 : Int) < (nu : Int)) = false := decide_eq_false (by omega)
            have g2n : decide (nu2 < nu) = false := decide_eq_false (by omega)
            clear hme hr2 hla ht hn1 hn2 hle
            go_upto_region 30 with fail
            refine wide_all (fun w5 => MeAt w b3 b9 s no ns nu O cO S cS U cU s2 no2 ns2 nu2 O2 cO2 S2 cS2 U2 cU2 u4 u5 u6 s2.op s2.st s2.out tg2 w5) (by kernel_rfl) (by kernel_rfl) (E.out.next (below_drewOf (Below.refl _ _))) ?_
            (try simp only [List.append_eq, List.cons_append, List.nil_append])
            repeat (first
              | go_big_quiet_skip
              | (go_big_quiet_want
                 apply wide_op
                 · (intro w5 h5; have x2 := h5.l3.cell (j := 2) rfl; have x3 := h5.l3.cell (j := 3) rfl; have z2 := h5.l9.cell (j := 2) rfl; have z3 := h5.l9.cell (j := 3) rfl; go_simp; first | done | with_reducible rfl | (go_at_call 21; refine (HLR.out _ h5).mono ?_; rintro e w6 ⟨rfl, hb6⟩; exact ⟨rfl, h5.next hb6⟩))
                 (try simp only [Act.put, List.setIfInBounds_toArray, List.set_cons_zero, List.set_cons_succ])
                 go_big_quiet_on))
            refine wpQuiet_nil ?_
            intro w6 h6
            have E := Lib.hid h6
            clear h6 HLR hsl g1 g2 g2n
            have z0 := E.out.l9.cell (j := 0) rfl; have z1 := E.out.l9.cell (j := 1) rfl; have z2 := E.out.l9.cell (j := 2) rfl; have z3 := E.out.l9.cell (j := 3) rfl
            have x0 := E.out.l3.cell (j := 0) rfl; have x1 := E.out.l3.cell (j := 1) rfl; have x2 := E.out.l3.cell (j := 2) rfl; have x3 := E.out.l3.cell (j := 3) rfl
            have f0 := E.out.l3.free 0; have f1 := E.out.l3.free 1; have f2 := E.out.l3.free 2; have f3 := E.out.l3.free 3
            go_upto_region 33 with fail
            have AT := Lib.hid (E.out.close HR2.out)
            obtain ⟨W7, hW7⟩ : ∃ W, W = set4K w6 b3 (.slice O2 no2 cO2) (.slice S2 ns2 cS2) (.int .i64 s2.last) (.slice U2 nu2 cU2) := ⟨_, rfl⟩
            rw [← hW7] at AT
            unfold set4K at hW7
            rw [← hW7]
            clear hW7 E x0 x1 x2 x3 z0 z1 z2 z3 f0 f1 f2 f3
            obtain ⟨Au, cu, eu, _⟩ := own_form AT.out.ow.ou (by omega)
            have hnu : nu2 = s2.out.length := AT.out.sk.at_.len.2.2
            have HNU := Lib.hid hnu
            rw [← hnu] at eu
            subst eu
            have HLM := Lib.hid (right_fit AT.out.ri).bd
            have HL2 := Lib.hid (fun w5 (h5 : OnAt w b3 s2 no2 ns2 nu2 O2 cO2 S2 cS2 U2 cU2 u4 (.slice Au nu2 cu) u6 tg2 w5) => (by obtain ⟨sg, k1⟩ := h5.sk.at_; exact rfLikeRes s2.out nu2 HNU.out (by rw [HNU.out]; have := HLM.out.u; omega) U2 Au cU2 cu w5 k1.ru (own_rowR (by have := h5.ow.ou; rwa [← HNU.out] at this)).1 : Calls Try.prog 21 #[.slice U2 nu2 cU2, .slice Au nu2 cu] w5 (TellsB true w5)))
            have x3 := AT.out.l3.cell (j := 3) rfl
            clear hnu
            go_wp2_with fail
            refine (HL2.out _ AT.out).mono ?_
            rintro e7 w7 ⟨rfl, hb7⟩
            have AT := Lib.hid (AT.out.next hb7)
            clear hb7 x3 HL2
            have HRT := Lib.hid (ckRight AT.out.sk.at_ HLM.out.lim)
            rw [AT.out.ri] at HRT
            have x0 := AT.out.l3.cell (j := 0) rfl; have x1 := AT.out.l3.cell (j := 1) rfl; have x2 := AT.out.l3.cell (j := 2) rfl; have x3 := AT.out.l3.cell (j := 3) rfl
            go_wp2_with fail
            refine HRT.out.mono ?_
            rintro e8 w8 ⟨rfl, hb8⟩
            have AT := Lib.hid (AT.out.next hb8)
            clear hb8 x0 x1 x2 x3 HRT
            go_wp2_with fail
            go_roundw
            case rel => exact ⟨i + 1, s2, no2, ns2, nu2, O2, cO2, S2, cS2, U2, cU2, tg2, rfl, HK.out, HI3.out, AT.out⟩
            case measure => simp [intOf]; have := HK.out; omega
          · have ge : (e == 0) = false := ne_b he
            have AT := Lib.hid (hme.back HRS.out)
            clear hme he
            go_upto_region 33 with fail
            obtain ⟨Au, cu, eu, _⟩ := own_form AT.out.ow.ou (by omega)
            have hnu : nu = s.out.length := AT.out.sk.at_.len.2.2
            have HNU := Lib.hid hnu
            rw [← hnu] at eu
            subst eu
            have HLM := Lib.hid (right_fit AT.out.ri).bd
            have HL2 := Lib.hid (fun w5 (h5 : OnAt w b3 s no ns nu O cO S cS U cU u4 (.slice Au nu cu) u6 tg2 w5) => (by obtain ⟨sg, k1⟩ := h5.sk.at_; exact rfLikeRes s.out nu HNU.out (by rw [HNU.out]; have := HLM.out.u; omega) U Au cU cu w5 k1.ru (own_rowR (by have := h5.ow.ou; rwa [← HNU.out] at this)).1 : Calls Try.prog 21 #[.slice U nu cU, .slice Au nu cu] w5 (TellsB true w5)))
            have x3 := AT.out.l3.cell (j := 3) rfl
            clear hnu
            go_wp2_with fail
            refine (HL2.out _ AT.out).mono ?_
            rintro e7 w7 ⟨rfl, hb7⟩
            have AT := Lib.hid (AT.out.next hb7)
            clear hb7 x3 HL2
            have HRT := Lib.hid (ckRight AT.out.sk.at_ HLM.out.lim)
            rw [AT.out.ri] at HRT
            have x0 := AT.out.l3.cell (j := 0) rfl; have x1 := AT.out.l3.cell (j := 1) rfl; have x2 := AT.out.l3.cell (j := 2) rfl; have x3 := AT.out.l3.cell (j := 3) rfl
            go_wp2_with fail
            refine HRT.out.mono ?_
            rintro e8 w8 ⟨rfl, hb8⟩
            have AT := Lib.hid (AT.out.next hb8)
            clear hb8 x0 x1 x2 x3 HRT
            go_wp2_with fail
            go_roundw
            case rel => exact ⟨i + 1, s, no, ns, nu, O, cO, S, cS, U, cU, tg2, rfl, HK.out, HI3.out, AT.out⟩
            case measure => simp [intOf]; have := HK.out; omega
      · have gi : decide ((200 : Int) ≤ (i : Int)) = true := decide_eq_true (by omega)
        have gin : decide (200 ≤ i) = true := decide_eq_true (by omega)
        clear h200
        go_wp2_with fail
        refine (HAL.out _).mono ?_
        rintro e w1 ⟨rfl, hb1⟩
        have HB1 := Lib.hid (below_next AT.out.below hb1)
        clear hb1
        go_wp2_with fail
        go_ret
        exact ⟨rfl, HB1.out⟩
    · have hki : ¬ (i : Int) < (n : Int) := by omega
      clear hlt hi
      go_wp2_with fail
      refine (HAL.out _).mono ?_
      rintro e w1 ⟨rfl, hb1⟩
      have HB1 := Lib.hid (below_next AT.out.below hb1)
      clear hb1
      go_wp2_with fail
      go_ret
      exact ⟨rfl, HB1.out⟩
end Sk
end Go.Proofs.Ytmkbdlailffjeaa
