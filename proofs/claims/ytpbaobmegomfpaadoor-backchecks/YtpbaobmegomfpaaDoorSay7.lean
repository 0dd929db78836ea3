/-
  Walks of the reference's statements: wordOf, StmtFault, StmtOf (they call each other: by induction on the length of the text).
-/
import Derived.Test.YtpbaobmegomfpaaDoorSay6
namespace Go.Proofs.YtpbaobmegomfpaaDoor
open Go.RowKit
set_option linter.unusedVariables false
set_option maxRecDepth 100000

set_option maxHeartbeats 1000000 in
theorem wordOf_any (k : Nat) (w : World) (h1 : 1 ≤ k) (h2 : k ≤ 11) :
    Calls Tryd.prog 29 #[.int .i64 k] w fun e w' => e = .returned (.string (wordAt k)) ∧ Below w.heap.size w w' := by
  obtain rfl | rfl | rfl | rfl | rfl | rfl | rfl | rfl | rfl | rfl | rfl : k = 1 ∨ k = 2 ∨ k = 3 ∨ k = 4 ∨ k = 5 ∨ k = 6 ∨ k = 7 ∨ k = 8 ∨ k = 9 ∨ k = 10 ∨ k = 11 := by omega
  all_goals
    go_enter Tryd.func29, Tryd.ntmps29
    go_wp2
    go_ret
    exact ⟨rfl, (Below.refl _ _).alloc (Nat.le_refl _) _⟩

end Go.Proofs.YtpbaobmegomfpaaDoor
