/- The law's alive, small; a sink in a variable; the walks of SinkAdds, SinkCommits. -/
import Derived.Test.YtmkbdlailffjeaaSinkCk
import Derived.Test.YtmkbdlailffjeaaSinkCm
namespace Go.Proofs.Ytmkbdlailffjeaa
open Go.ChangeShapes Go.WideShapes Go.ChangeAt Go.RowKit
set_option linter.unusedVariables false
set_option maxRecDepth 8000
namespace Sk
open Gen (TellsB row_one flat_len flat_get Mine)
/-- A sink in a variable. -/
structure Var (w : World) (b : Nat) (s : Si) (no ns nu : Nat) (O : Option Addr) (cO : Nat) (S : Option Addr) (cS : Nat) (U : Option Addr) (cU : Nat) : Prop where
  l : Lies b (skC O no cO S ns cS s.last U nu cU) 25 w
  at_ : SkAt w s no ns nu O cO S cS U cU
theorem Var.next {w w' : World} {b : Nat} {s : Si} {no ns nu : Nat} {O : Option Addr} {cO : Nat} {S : Option Addr} {cS : Nat} {U : Option Addr} {cU : Nat} (h : Var w b s no ns nu O cO S cS U cU) (hb : Below w.heap.size w w') : Var w' b s no ns nu O cO S cS U cU := ⟨h.l.below hb, h.at_.below hb⟩
def r0 : Re := ⟨0, 1, ⟨#[97]⟩, 1, 0⟩
theorem add_r0 : addO zS r0 = (⟨[r0], [], 0, []⟩, 0) := by
  have h1 : roomS zS = some 20000 := by simp [roomS, headO, zS, allO, stO]
  have h2 : okR r0 = true := by simp [okR, r0, Itm.okRes, Itm.okKey, Itm.wn, ByteArray.size]
  unfold addO
  rw [h1]
  simp only [h2]
  simp [zS]
theorem lim_z : Lim zS := bd_z.lim
set_option maxHeartbeats 1000000 in
theorem lawAlive (w : World) : Calls Try.prog 13 #[] w (TellsB true w) := by
  have HC := Lib.hid (ckAdd ((zero_at (fun _ => False) w).at_) lim_z r0)
  rw [add_r0] at HC
  go_enter Try.func13, Try.ntmps13
  go_wp2_with fail
  refine HC.out.mono ?_
  rintro e w1 ⟨no, ns, nu, O, cO, S, cS, U, cU, rfl, ha, hb1⟩
  have hno : no = 1 := ha.len.1
  subst hno
  have HB := Lib.hid (below_next hb1 (below_al (o := .cells (skC O 1 cO S ns cS 0 U nu cU) 25) (Below.refl w1.heap.size w1)))
  clear ha hb1
  go_wp2_with fail
  go_ret
  exact ⟨rfl, HB.out⟩
theorem lawSmall (no ns nu : Nat) (O : Option Addr) (cO : Nat) (S : Option Addr) (cS : Nat) (last : Int) (U : Option Addr) (cU : Nat) (w : World) :
    Calls Try.prog 8 #[skV O no cO S ns cS last U nu cU] w (TellsB (decide (ns ≤ 20)) w) := by
  have HB := Lib.hid (below_al (o := .cells (skC O no cO S ns cS last U nu cU) 25) (Below.refl w.heap.size w))
  have L := Lib.hid (Lies.new w (skC O no cO S ns cS last U nu cU) 25)
  by_cases h : ns ≤ 20
  · have g1 : decide ((ns : Int) ≤ 20) = true := decide_eq_true (by omega)
    have g2 : decide (ns ≤ 20) = true := decide_eq_true h
    rw [g2]
    clear g2 h
    go_enter Try.func8, Try.ntmps8
    go_upto_region 1 with fail
    obtain ⟨tb, htb⟩ : ∃ b, b = w.heap.size := ⟨_, rfl⟩
    obtain ⟨W, hW⟩ : ∃ W, W = w.alloc (.cells (skC O no cO S ns cS last U nu cU) 25) := ⟨_, rfl⟩
    rw [← hW] at L HB ⊢
    rw [← htb] at L ⊢
    clear hW htb
    have x1 := L.out.cell (j := 1) rfl
    go_wp2_with fail
    go_ret
    exact ⟨rfl, HB.out⟩
  · have g1 : decide ((ns : Int) ≤ 20) = false := decide_eq_false (by omega)
    have g2 : decide (ns ≤ 20) = false := decide_eq_false h
    rw [g2]
    clear g2 h
    go_enter Try.func8, Try.ntmps8
    go_upto_region 1 with fail
    obtain ⟨tb, htb⟩ : ∃ b, b = w.heap.size := ⟨_, rfl⟩
    obtain ⟨W, hW⟩ : ∃ W, W = w.alloc (.cells (skC O no cO S ns cS last U nu cU) 25) := ⟨_, rfl⟩
    rw [← hW] at L HB ⊢
    rw [← htb] at L ⊢
    clear hW htb
    have x1 := L.out.cell (j := 1) rfl
    go_wp2_with fail
    go_ret
    exact ⟨rfl, HB.out⟩
end Sk
end Go.Proofs.Ytmkbdlailffjeaa
