/-
  Texts of the proof, one behind the other: OpenR, Itoa, Picked, RawS.
-/
import Derived.Test.YtpbaobmegomfpabGreatDoorM25
import Derived.Test.YtpbaobmegomfpabGreatDoorM23
import Derived.Test.YtpbaobmegomfpabGreatDoorRows
import Derived.WalkKit
import Derived.WalkSpells
import Derived.WalkLawsBesides
import Derived.Lib.Hide
import Derived.Test.YtpbaobmegomfpabGreatDoorM1
set_option linter.unusedVariables false
set_option linter.unusedSimpArgs false
set_option maxRecDepth 100000
open List renaming getElem_toArray → gTA, getElem_cons_zero → gCZ, getElem_cons_succ → gCS, setIfInBounds_toArray → sTA, set_cons_zero → sCZ, set_cons_succ → sCS
open Go.Lib renaming hid → jD
open Nat renaming le_refl → nL
namespace Go.Proofs.YtpbaobmegomfpabGreatDoor
open Go.RowKit Go.ChangeShapes Go.WideShapes Go.Deep Go.Joins
structure Raw.wf (r : Raw) : Prop where
 k : (Lit.int .i64 r.kd).wf = true
 a : (Lit.int .i64 r.a).wf = true
 b : (Lit.int .i64 r.b).wf = true
 c : (Lit.int .i64 r.c).wf = true
section
variable {H : Type} {enc : TypeId × Value → H} {w : World} {base : Nat} {spare : Nat → Bool} {held : Bool}
end
end Go.Proofs.YtpbaobmegomfpabGreatDoor
namespace Go.Proofs.YtpbaobmegomfpabGreatDoor
open Go.RowKit
theorem i64_bd {a : Int} (h : (Lit.int .i64 a).wf = true) : -9223372036854775808 ≤ a ∧ a ≤ 9223372036854775807 := by
 simpa [Lit.wf, IntKind.min, IntKind.max, IntKind.signed, IntKind.bits] using h
set_option maxHeartbeats 400000 in
theorem picked_any (n m : Int) (w : World) (hn : -9223372036854775808 ≤ n) (hn2 : n ≤ 9223372036854775807) (hm : 0 < m) (hm2 : m ≤ 9223372036854775807) :
  Calls Tryz.prog 14 #[.int .i64 n, .int .i64 m] w fun e w' => e = .returned (.int .i64 (pickI n m)) ∧ w = w' := by
 have hm0 : (m == 0) = false := beq_eq_false_iff_ne.2 (by omega)
 by_cases h : n < 0
 ·have hp := jD (pickI_neg (m := m) h)
  have h1 : 0 ≤ -(n + 1) := by omega
  go_enter Tryz.func14, Tryz.ntmps14
  go_wp2
  go_ret
  exact ⟨ret_int (by rw [hp.out, ← Int.neg_tmod, Int.tmod_eq_emod_of_nonneg h1]), rfl⟩
 ·have hp := jD (pickI_pos (m := m) h)
  go_enter Tryz.func14, Tryz.ntmps14
  go_wp2
  go_ret
  exact ⟨by rw [hp.out]; rfl, rfl⟩
theorem pick_some (n : Int) (m : Nat) (hm : 0 < m) : ∃ p : Nat, pickI n m = (p : Int) ∧ p < m := by
 have := pickI_bd n (m := (m : Int)) (by omega)
 exact ⟨(pickI n m).toNat, by omega, by omega⟩
end Go.Proofs.YtpbaobmegomfpabGreatDoor
