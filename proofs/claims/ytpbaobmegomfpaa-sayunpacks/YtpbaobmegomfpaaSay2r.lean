/-
  Walks of messages, the reference's: PackedOf, UnpackedOf.
-/
import Derived.Test.YtpbaobmegomfpaaSay2
namespace Go.Proofs.Ytpbaobmegomfpaa
open Go.RowKit
set_option linter.unusedVariables false
set_option maxRecDepth 100000

set_option maxHeartbeats 400000 in
theorem packedOf_any (k : UInt8) (s : ByteArray) (w : World) (hs : s.size ≤ 120) :
    Calls Try.prog 10 #[.int .u8 k.toNat, .string s] w fun e w' => e = .returned (.tuple #[.string (msg k s), .int .i64 0]) ∧ Below w.heap.size w w' := by
  have hcv := run_two k s.size (by omega) w
  have hd : decide (120 < (s.size : Int)) = false := decide_eq_false (by omega)
  go_enter Try.func10, Try.ntmps10
  go_wp2
  go_ret2
  exact ⟨rfl, (Below.refl _ _).alloc (Nat.le_refl _) _⟩

set_option maxHeartbeats 400000 in
theorem packedOf_long (k : UInt8) (s : ByteArray) (w : World) (hs : 120 < s.size) :
    Calls Try.prog 10 #[.int .u8 k.toNat, .string s] w fun e w' => e = .returned (.tuple #[.string ⟨#[]⟩, .int .i64 1]) ∧ w = w' := by
  have hd : decide (120 < (s.size : Int)) = true := decide_eq_true (by omega)
  go_enter Try.func10, Try.ntmps10
  go_wp2
  go_ret2
  exact ⟨rfl, rfl⟩

set_option maxHeartbeats 400000 in
theorem unpackedOf_ok (s : ByteArray) (w : World) (hs : s.size ≤ maxLen) (h2 : 2 ≤ s.size) (h : 2 + s[1].toNat ≤ s.size) :
    Calls Try.prog 12 #[.string s] w fun e w' => e = .returned (.tuple #[.int .u8 s[0].toNat, .string (s.extract 2 (2 + s[1].toNat)), .int .i64 ((2 : Int) + (s[1].toNat : Int))]) ∧ ∃ n, w' = w.drewN n := by
  unfold maxLen at hs
  have hby : s[1].toNat < 256 := s[1].toNat_lt
  have hd : decide ((s.size : Int) < 2) = false := decide_eq_false (by omega)
  have hd2 : decide ((s.size : Int) - 2 < (s[1].toNat : Int)) = false := decide_eq_false (by omega)
  have h0 : 0 < s.size := by omega
  have h0' : (0 : Int) < (s.size : Int) := by omega
  have h3 : (0 : Int) ≤ (2 : Int) + (s[1].toNat : Int) := by omega
  have h4 : (2 : Int) ≤ (2 : Int) + (s[1].toNat : Int) := by omega
  have h5 : (2 : Int) + (s[1].toNat : Int) ≤ (s.size : Int) := by omega
  have h6 : IntKind.i64.wrap ((2 : Int) + (s[1].toNat : Int)) = (2 : Int) + (s[1].toNat : Int) := IntWalk.i64_in _ (by omega)
  have h7 : ((2 : Int) + (s[1].toNat : Int)).toNat = 2 + s[1].toNat := by omega
  go_enter Try.func12, Try.ntmps12
  go_wp2
  go_quiet (fail)
  go_wp2
  go_ret3
  exact ⟨rfl, nq, rfl⟩

/-- fewer than two bytes -/
theorem unpackedOf_two (s : ByteArray) (w : World) (h2 : s.size < 2) :
    Calls Try.prog 12 #[.string s] w fun e w' => e = .returned (.tuple #[.int .u8 0, .string ⟨#[]⟩, .int .i64 0]) ∧ w = w' := by
  have hd : decide ((s.size : Int) < 2) = true := decide_eq_true (by omega)
  go_enter Try.func12, Try.ntmps12
  go_wp2
  go_ret3
  exact ⟨rfl, rfl⟩

set_option maxHeartbeats 400000 in
/-- the text is not whole -/
theorem unpackedOf_cut (s : ByteArray) (w : World) (hs : s.size ≤ maxLen) (h2 : 2 ≤ s.size) (h : s.size < 2 + s[1].toNat) :
    Calls Try.prog 12 #[.string s] w fun e w' => e = .returned (.tuple #[.int .u8 0, .string ⟨#[]⟩, .int .i64 0]) ∧ w = w' := by
  unfold maxLen at hs
  have hby : s[1].toNat < 256 := s[1].toNat_lt
  have hd : decide ((s.size : Int) < 2) = false := decide_eq_false (by omega)
  go_enter Try.func12, Try.ntmps12
  go_wp2
  go_ret3
  exact ⟨rfl, rfl⟩


end Go.Proofs.Ytpbaobmegomfpaa
