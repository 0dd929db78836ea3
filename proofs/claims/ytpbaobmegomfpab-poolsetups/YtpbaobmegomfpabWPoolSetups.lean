/-
  The walk of the law PoolSetups.
-/
import Derived.Test.YtpbaobmegomfpabPSetup
namespace Go.Proofs.Ytpbaobmegomfpab
open Go.RowKit
set_option linter.unusedVariables false
set_option linter.unusedSimpArgs false
set_option maxRecDepth 100000

theorem bel_add9 {B : Nat} {a b c : World} (h : Below B a b) (k : Below b.heap.size b c) (hB : B ≤ b.heap.size) : Below B a c := h.trans (k.mono hB)
theorem walk_PoolSetups (m s : Int) (hm : (Lit.int .i64 m).wf = true) (hs : (Lit.int .i64 s).wf = true) (w : World) :
    Calls Try.prog 4 #[.agg #[.int .i64 m, .int .i64 s]] w fun e w' => e = .returned (.bool true) ∧ Below w.heap.size w w' := by
  have t : (setupE m s == setupE m s) = true := by simp
  go_enter Try.func4, Try.ntmps4
  go_wp2_with fail
  refine (checkSetup_any m s _).mono ?_
  rintro e w1 ⟨rfl, hb1⟩
  have B1 := bel_add9 ((Below.refl w.heap.size w).alloc (Nat.le_refl _) (.cells #[.int .i64 m, .int .i64 s] 30)) hb1 (by simp)
  have c0 := (hb1.cell (p := ⟨w.heap.size, 0, none⟩) (by simp)).trans (show (w.alloc (.cells #[.int .i64 m, .int .i64 s] 30)).cell? ⟨w.heap.size, 0, none⟩ = some (.int .i64 m) by simp [go_sem])
  have c1 := (hb1.cell (p := ⟨w.heap.size, 1, none⟩) (by simp)).trans (show (w.alloc (.cells #[.int .i64 m, .int .i64 s] 30)).cell? ⟨w.heap.size, 1, none⟩ = some (.int .i64 s) by simp [go_sem])
  have HB1 := Lib.hid B1
  clear hb1 B1
  go_wp2_with fail
  refine (setupFault_any m s _).mono ?_
  rintro e w2 ⟨rfl, hb2⟩
  have B2 := Lib.hid (bel_add9 HB1.out hb2 HB1.out.size)
  clear hb2
  go_wp2
  go_ret
  exact ⟨rfl, B2.out⟩
end Go.Proofs.Ytpbaobmegomfpab
