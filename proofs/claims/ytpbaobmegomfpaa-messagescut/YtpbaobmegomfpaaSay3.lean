/-
  The walk of tillermankeep.picked and of the law MessagesCut.
-/
import Derived.Test.YtpbaobmegomfpaaRows
import Derived.Test.YtpbaobmegomfpaaSay2
import Derived.Test.YtpbaobmegomfpaaPicked
import Derived.WalkKit
import Derived.WalkSpells
import Derived.WalkLawsBesides
import Derived.Lib.Hide
namespace Go.Proofs.Ytpbaobmegomfpaa
open Go.RowKit
set_option linter.unusedVariables false

/-- a whole message is unpacked, whatever follows it -/
theorem unpack_msg (k : UInt8) (T m : ByteArray) (w : World) (hT : T.size ≤ 255) (hm : m.size ≤ 140737488351232) :
    Calls Try.prog 11 #[.string (msg k T ++ m)] w fun e w' => e = .returned (.tuple #[.int .u8 k.toNat, .string T, .int .i64 ((2 : Int) + (T.size : Int))]) ∧ Below w.heap.size w w' := by
  have hz : (msg k T ++ m).size = T.size + 2 + m.size := by rw [ByteArray.size_append, msg_size]
  have h1 : (msg k T ++ m)[1].toNat = T.size := by
    have := u8_size hT
    rw [msgs_one]; omega
  refine (unpack_ok (msg k T ++ m) w (by unfold maxLen; omega) (by omega) (by omega)).mono fun e w' ⟨he, hb⟩ => ⟨?_, hb⟩
  rw [he, h1, msgs_zero, msgs_text]

/-- a part of a message is not -/
theorem unpack_part (k : UInt8) (T : ByteArray) (p : Nat) (w : World) (hT : T.size ≤ 255) (hp : p < T.size + 2) :
    Calls Try.prog 11 #[.string ((msg k T).extract 0 p)] w fun e w' => e = .returned (.tuple #[.int .u8 0, .string ⟨#[]⟩, .int .i64 0]) ∧ w = w' := by
  have hz := part_size k T hp
  by_cases h2 : p < 2
  · exact unpack_two _ _ (by omega)
  · refine unpack_cut _ _ (by unfold maxLen; omega) (by omega) ?_
    have := u8_size hT
    rw [part_one]; omega

end Go.Proofs.Ytpbaobmegomfpaa
