/- Contracts of which items may be, of package item and of the reference. -/
import Derived.Test.YtmkbdlailffjeaaItemMath
import Derived.Test.YtmkbdlailffjeaaMem
import Derived.Deep.RegionHeld3
import Derived.Laws.StructEq
namespace Go.Proofs.Ytmkbdlailffjeaa
open Go.RowKit
open Itm
set_option linter.unusedVariables false
set_option maxRecDepth 8000
/-- Hands back a truth; nothing is touched. -/
def Says (b : Bool) (w : World) (e : Ending) (w' : World) : Prop := e = .returned (.bool b) ∧ w = w'
theorem itWithin (n lo hi : Int) (w : World) :
    Calls Try.prog 44 #[.int .i64 n, .int .i64 lo, .int .i64 hi] w (Says (wn n lo hi) w) := by
  by_cases h1 : lo ≤ n
  · by_cases h2 : n ≤ hi
    · have hc := Lib.hid (wn_true h1 h2)
      go_enter Try.func44, Try.ntmps44
      go_wp2_with fail
      go_ret
      exact ⟨by rw [hc.out]; rfl, rfl⟩
    · have hc := Lib.hid (wn_hi (lo := lo) h2)
      go_enter Try.func44, Try.ntmps44
      go_wp2_with fail
      go_ret
      exact ⟨by rw [hc.out]; rfl, rfl⟩
  · have hc := Lib.hid (wn_lo (hi := hi) h1)
    go_enter Try.func44, Try.ntmps44
    go_wp2_with fail
    go_ret
    exact ⟨by rw [hc.out]; rfl, rfl⟩
theorem itKey (s : ByteArray) (w : World) :
    Calls Try.prog 48 #[.string s] w (Says (okKey s) w) := by
  go_enter Try.func48, Try.ntmps48
  go_wp2_with fail
  refine (itWithin _ _ _ _).mono ?_
  rintro e w' ⟨rfl, rfl⟩
  go_wp2_with fail
  go_ret
  exact ⟨rfl, rfl⟩
theorem rfKey (s : ByteArray) (w : World) :
    Calls Try.prog 37 #[.string s] w (Says (okKey s) w) := by
  by_cases h1 : (1 : Int) ≤ s.size
  · by_cases h2 : (s.size : Int) ≤ 16
    · have hc := Lib.hid (show okKey s = true from wn_true h1 h2)
      go_enter Try.func37, Try.ntmps37
      go_wp2_with fail
      go_ret
      exact ⟨by rw [hc.out]; rfl, rfl⟩
    · have hc := Lib.hid (show okKey s = false from wn_hi h2)
      go_enter Try.func37, Try.ntmps37
      go_wp2_with fail
      go_ret
      exact ⟨by rw [hc.out]; rfl, rfl⟩
  · have hc := Lib.hid (show okKey s = false from wn_lo h1)
    go_enter Try.func37, Try.ntmps37
    go_wp2_with fail
    go_ret
    exact ⟨by rw [hc.out]; rfl, rfl⟩
/-- Hands back a truth; what was stays. -/
def Tells (b : Bool) (w : World) (e : Ending) (w' : World) : Prop := e = .returned (.bool b) ∧ Below w.heap.size w w'
/-- Hands back a truth; its argument was laid anew. -/
def TellsA (b : Bool) (o : Obj) (w : World) (e : Ending) (w' : World) : Prop := e = .returned (.bool b) ∧ w' = w.alloc o
theorem itEvent (k : ByteArray) (a v : Int) (w : World) :
    Calls Try.prog 43 #[evV k a v] w (TellsA (okEv k a) (.cells (evC k a v) 63) w) := by
  by_cases hk : okKey k = true
  · have hc := Lib.hid (show okEv k a = wn a 0 1099511627775 from by unfold okEv; rw [hk, Bool.true_and])
    go_enter Try.func43, Try.ntmps43
    go_wp2_with fail
    refine (itKey _ _).mono ?_
    rintro e w' ⟨rfl, rfl⟩
    go_wp2_with fail
    refine (itWithin _ _ _ _).mono ?_
    rintro e w' ⟨rfl, rfl⟩
    go_wp2_with fail
    go_ret
    exact ⟨by rw [hc.out]; rfl, rfl⟩
  · have hk' : okKey k = false := by simpa using hk
    have hc := Lib.hid (show okEv k a = false from by unfold okEv; rw [hk', Bool.false_and])
    clear hk
    go_enter Try.func43, Try.ntmps43
    go_wp2_with fail
    refine (itKey _ _).mono ?_
    rintro e w' ⟨rfl, rfl⟩
    go_wp2_with fail
    go_ret
    exact ⟨by rw [hc.out]; rfl, rfl⟩
theorem itResult (lo hi : Int) (k : ByteArray) (n v : Int) (w : World) :
    Calls Try.prog 45 #[resV lo hi k n v] w (TellsA (okRes k lo hi n) (.cells (resC lo hi k n v) 29) w) := by
  by_cases hk : okKey k = true
  · by_cases h1 : 0 ≤ lo
    · by_cases h2 : lo < hi
      · by_cases h3 : hi ≤ 1099511627776
        · have hc := Lib.hid (show okRes k lo hi n = wn n 1 1073741824 from by simp [okRes, hk, h1, h2, h3])
          go_enter Try.func45, Try.ntmps45
          go_wp2_with fail
          refine (itKey _ _).mono ?_
          rintro e w' ⟨rfl, rfl⟩
          go_wp2_with fail
          refine (itWithin _ _ _ _).mono ?_
          rintro e w' ⟨rfl, rfl⟩
          go_wp2_with fail
          go_ret
          exact ⟨by rw [hc.out]; rfl, rfl⟩
        · have hc := Lib.hid (show okRes k lo hi n = false from by simp [okRes, h3])
          go_enter Try.func45, Try.ntmps45
          go_wp2_with fail
          refine (itKey _ _).mono ?_
          rintro e w' ⟨rfl, rfl⟩
          go_wp2_with fail
          go_ret
          exact ⟨by rw [hc.out]; rfl, rfl⟩
      · have hc := Lib.hid (show okRes k lo hi n = false from by simp [okRes, h2])
        go_enter Try.func45, Try.ntmps45
        go_wp2_with fail
        refine (itKey _ _).mono ?_
        rintro e w' ⟨rfl, rfl⟩
        go_wp2_with fail
        go_ret
        exact ⟨by rw [hc.out]; rfl, rfl⟩
    · have hc := Lib.hid (show okRes k lo hi n = false from by simp [okRes, h1])
      go_enter Try.func45, Try.ntmps45
      go_wp2_with fail
      refine (itKey _ _).mono ?_
      rintro e w' ⟨rfl, rfl⟩
      go_wp2_with fail
      go_ret
      exact ⟨by rw [hc.out]; rfl, rfl⟩
  · have hk' : okKey k = false := by simpa using hk
    have hc := Lib.hid (show okRes k lo hi n = false from by simp [okRes, hk'])
    clear hk
    go_enter Try.func45, Try.ntmps45
    go_wp2_with fail
    refine (itKey _ _).mono ?_
    rintro e w' ⟨rfl, rfl⟩
    go_wp2_with fail
    go_ret
    exact ⟨by rw [hc.out]; rfl, rfl⟩
theorem rfResult (lo hi : Int) (k : ByteArray) (n v : Int) (w : World) :
    Calls Try.prog 26 #[resV lo hi k n v] w (TellsA (okRes k lo hi n) (.cells (resC lo hi k n v) 29) w) := by
  by_cases hk : okKey k = true
  · by_cases h1 : 0 ≤ lo
    · by_cases h2 : lo < hi
      · by_cases h3 : hi ≤ 1099511627776
        · by_cases h4 : 1 ≤ n
          · by_cases h5 : n ≤ 1073741824
            · have hc := Lib.hid (show okRes k lo hi n = true from by simp [okRes, hk, h1, h2, h3, wn_true h4 h5])
              go_enter Try.func26, Try.ntmps26
              go_wp2_with fail
              refine (rfKey _ _).mono ?_
              rintro e w' ⟨rfl, rfl⟩
              go_wp2_with fail
              go_ret
              exact ⟨by rw [hc.out]; rfl, rfl⟩
            · have hc := Lib.hid (show okRes k lo hi n = false from by simp [okRes, wn_hi h5])
              have hd : decide (n ≤ 1073741824) = false := decide_eq_false h5
              go_enter Try.func26, Try.ntmps26
              go_wp2_with fail
              refine (rfKey _ _).mono ?_
              rintro e w' ⟨rfl, rfl⟩
              go_wp2_with fail
              go_ret
              exact ⟨by rw [hc.out]; rfl, rfl⟩
          · have hc := Lib.hid (show okRes k lo hi n = false from by simp [okRes, wn_lo h4])
            go_enter Try.func26, Try.ntmps26
            go_wp2_with fail
            refine (rfKey _ _).mono ?_
            rintro e w' ⟨rfl, rfl⟩
            go_wp2_with fail
            go_ret
            exact ⟨by rw [hc.out]; rfl, rfl⟩
        · have hc := Lib.hid (show okRes k lo hi n = false from by simp [okRes, h3])
          go_enter Try.func26, Try.ntmps26
          go_wp2_with fail
          refine (rfKey _ _).mono ?_
          rintro e w' ⟨rfl, rfl⟩
          go_wp2_with fail
          go_ret
          exact ⟨by rw [hc.out]; rfl, rfl⟩
      · have hc := Lib.hid (show okRes k lo hi n = false from by simp [okRes, h2])
        go_enter Try.func26, Try.ntmps26
        go_wp2_with fail
        refine (rfKey _ _).mono ?_
        rintro e w' ⟨rfl, rfl⟩
        go_wp2_with fail
        go_ret
        exact ⟨by rw [hc.out]; rfl, rfl⟩
    · have hc := Lib.hid (show okRes k lo hi n = false from by simp [okRes, h1])
      go_enter Try.func26, Try.ntmps26
      go_wp2_with fail
      refine (rfKey _ _).mono ?_
      rintro e w' ⟨rfl, rfl⟩
      go_wp2_with fail
      go_ret
      exact ⟨by rw [hc.out]; rfl, rfl⟩
  · have hk' : okKey k = false := by simpa using hk
    have hc := Lib.hid (show okRes k lo hi n = false from by simp [okRes, hk'])
    clear hk
    go_enter Try.func26, Try.ntmps26
    go_wp2_with fail
    refine (rfKey _ _).mono ?_
    rintro e w' ⟨rfl, rfl⟩
    go_wp2_with fail
    go_ret
    exact ⟨by rw [hc.out]; rfl, rfl⟩
end Go.Proofs.Ytmkbdlailffjeaa
