/-
  The walk of the law SayChecks.
-/
import Derived.Test.YtpbaobmegomfpaaDoorSay10
import Derived.Test.YtpbaobmegomfpaaDoorLaidWords
namespace Go.Proofs.YtpbaobmegomfpaaDoor
open Go.RowKit
set_option linter.unusedVariables false
set_option maxRecDepth 100000

theorem sayChecks.laidFacts {W : World} (h : laidMetH Tryd.prog Rows.sayChecksRow.laid W) : Words W := words_of h (by simp [Rows.sayChecksRow, Rows.laid_tillerman_say_words, List.range, List.range.loop, wordL])

set_option maxHeartbeats 400000 in
theorem walk_SayChecks (k : Int) (key v : ByteArray) (hk : (Lit.int .i64 k).wf = true) (hs : key.size ≤ maxLen) (hv : v.size ≤ maxLen) (w : World) (hW : Words w) :
    Calls Tryd.prog 3 #[.agg #[.int .i64 k, .string key, .string v]] w fun e w' => e = .returned (.bool true) ∧ Below w.heap.size w w' := by
  have HW := Lib.hid hW
  clear hW
  go_enter Tryd.func3, Tryd.ntmps3
  go_wp2_with fail
  refine (check_any k key v _ hs hv (HW.out.alloc _)).mono ?_
  rintro e w1 ⟨rfl, hb⟩
  have c := (Stm.new w k key v 23).below hb
  have c0 := c.c0
  have c1 := c.c1
  have c2 := c.c2
  clear c
  go_wp2_with fail
  refine (stmtFault_any k key v hs hv _).mono ?_
  rintro e w2 ⟨rfl, hb2⟩
  go_wp2
  go_ret
  exact ⟨by simp, bel_trans (bel_trans ((Below.refl _ _).alloc (Nat.le_refl _) _) hb) hb2⟩

end Go.Proofs.YtpbaobmegomfpaaDoor
