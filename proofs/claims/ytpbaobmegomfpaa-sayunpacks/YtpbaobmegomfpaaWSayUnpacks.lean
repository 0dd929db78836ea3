/-
  The walk of the law SayUnpacks.
-/
import Derived.Test.YtpbaobmegomfpaaSay2r
namespace Go.Proofs.Ytpbaobmegomfpaa
open Go.RowKit
set_option linter.unusedVariables false
set_option maxRecDepth 100000

set_option maxHeartbeats 400000 in
theorem walk_SayUnpacks (s : ByteArray) (hs : s.size ≤ maxLen) (w : World) :
    Calls Try.prog 5 #[.string s] w fun e w' => e = .returned (.bool true) ∧ Below w.heap.size w w' := by
  by_cases h2 : 2 ≤ s.size
  · by_cases h : 2 + s[1].toNat ≤ s.size
    · go_enter Try.func5, Try.ntmps5
      go_wp2_with fail
      refine (unpack_ok s _ hs h2 h).mono ?_
      rintro e w1 ⟨rfl, hb⟩
      go_wp2_with fail
      refine (unpackedOf_ok s _ hs h2 h).mono ?_
      rintro e w2 ⟨rfl, n, rfl⟩
      go_wp2
      go_ret
      exact ⟨by simp, below_drewN hb n⟩
    · go_enter Try.func5, Try.ntmps5
      go_wp2_with fail
      refine (unpack_cut s _ hs h2 (by omega)).mono ?_
      rintro e w1 ⟨rfl, rfl⟩
      go_wp2_with fail
      refine (unpackedOf_cut s _ hs h2 (by omega)).mono ?_
      rintro e w2 ⟨rfl, rfl⟩
      go_wp2
      go_ret
      exact ⟨by simp, Below.refl _ _⟩
  · go_enter Try.func5, Try.ntmps5
    go_wp2_with fail
    refine (unpack_two s _ (by omega)).mono ?_
    rintro e w1 ⟨rfl, rfl⟩
    go_wp2_with fail
    refine (unpackedOf_two s _ (by omega)).mono ?_
    rintro e w2 ⟨rfl, rfl⟩
    go_wp2
    go_ret
    exact ⟨by simp, Below.refl _ _⟩

end Go.Proofs.Ytpbaobmegomfpaa
