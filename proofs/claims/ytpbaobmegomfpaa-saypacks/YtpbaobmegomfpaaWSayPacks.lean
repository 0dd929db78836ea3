/-
  The walk of the law SayPacks.
-/
import Derived.Test.YtpbaobmegomfpaaSay2r
namespace Go.Proofs.Ytpbaobmegomfpaa
open Go.RowKit
set_option linter.unusedVariables false
set_option maxRecDepth 100000

set_option maxHeartbeats 400000 in
theorem walk_SayPacks (a : Int) (s : ByteArray) (ha : (Lit.int .u8 a).wf = true) (hs : s.size ≤ maxLen) (w : World) :
    Calls Try.prog 4 #[.int .u8 a, .string s] w fun e w' => e = .returned (.bool true) ∧ Below w.heap.size w w' := by
  obtain ⟨k, rfl⟩ := u8_of ha
  by_cases h : s.size ≤ 120
  · go_enter Try.func4, Try.ntmps4
    go_wp2_with fail
    refine (pack_any k s _ h).mono ?_
    rintro e w1 ⟨rfl, hb⟩
    go_wp2_with fail
    refine (packedOf_any k s _ h).mono ?_
    rintro e w2 ⟨rfl, hc⟩
    go_wp2
    go_ret
    exact ⟨by simp, hb.trans (hc.mono hb.size)⟩
  · go_enter Try.func4, Try.ntmps4
    go_wp2_with fail
    refine (pack_long k s _ (by omega)).mono ?_
    rintro e w1 ⟨rfl, rfl⟩
    go_wp2_with fail
    refine (packedOf_long k s _ (by omega)).mono ?_
    rintro e w2 ⟨rfl, rfl⟩
    go_wp2
    go_ret
    exact ⟨by simp, Below.refl _ _⟩

end Go.Proofs.Ytpbaobmegomfpaa
