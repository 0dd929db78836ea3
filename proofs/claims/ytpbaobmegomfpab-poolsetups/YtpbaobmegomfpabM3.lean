/-
  Texts of the proof of PoolSetups, one behind the other: PSetup, WPoolSetups.
-/
import Derived.Test.YtpbaobmegomfpabM2
import Derived.Test.YtpbaobmegomfpabRows
import Derived.Below
import Derived.WalkKit
import Derived.WalkSpells
import Derived.WalkLawsBesides
import Derived.Lib.Hide
/-
  Walks of pool.CheckSetup and the reference's SetupFault.
-/
namespace Go.Proofs.Ytpbaobmegomfpab
open Go.RowKit
set_option linter.unusedVariables false
set_option linter.unusedSimpArgs false
set_option maxRecDepth 100000

theorem inN_any (n a b : Int) (w : World) : Calls Try.prog 11 #[.int .i64 n, .int .i64 a, .int .i64 b] w fun e w' => e = .returned (.bool (decide (a ≤ n) && decide (n ≤ b))) ∧ w = w' := by
  by_cases h : a ≤ n
  · have h1 : decide (a ≤ n) = true := decide_eq_true h
    go_enter Try.func11, Try.ntmps11
    go_wp2
    go_ret
    exact ⟨by rw [h1]; simp, rfl⟩
  · have h1 : decide (a ≤ n) = false := decide_eq_false h
    go_enter Try.func11, Try.ntmps11
    go_wp2
    go_ret
    exact ⟨rfl, rfl⟩
set_option maxHeartbeats 1000000 in
theorem checkSetup_any (m s : Int) (w : World) : Calls Try.prog 7 #[.agg #[.int .i64 m, .int .i64 s]] w fun e w' => e = .returned (.int .i64 (setupE m s)) ∧ Below w.heap.size w w' := by
  by_cases h1 : m < 1
  · have t1 : decide (m < 1) = true := decide_eq_true h1
    have HE := Lib.hid (show setupE m s = 3 by unfold setupE; rw [if_pos (.inl h1)])
    go_enter Try.func7, Try.ntmps7
    go_wp2
    go_ret
    refine ⟨by rw [HE.out]; rfl, ?_⟩
    repeat' (first | exact Below.refl _ _ | assumption | with_reducible refine below_drewN ?_ _ | with_reducible refine Below.drew ?_ | with_reducible refine Below.setCell ?_ ?_ _ | with_reducible refine Below.alloc ?_ ?_ _ | (simp; done) | (simp; omega))
  have t1 : decide (m < 1) = false := decide_eq_false h1
  by_cases h2 : 3 < m
  · have t2 : decide (3 < m) = true := decide_eq_true h2
    have HE := Lib.hid (show setupE m s = 3 by unfold setupE; rw [if_pos (.inr h2)])
    go_enter Try.func7, Try.ntmps7
    go_wp2
    go_ret
    refine ⟨by rw [HE.out]; rfl, ?_⟩
    repeat' (first | exact Below.refl _ _ | assumption | with_reducible refine below_drewN ?_ _ | with_reducible refine Below.drew ?_ | with_reducible refine Below.setCell ?_ ?_ _ | with_reducible refine Below.alloc ?_ ?_ _ | (simp; done) | (simp; omega))
  have t2 : decide (3 < m) = false := decide_eq_false h2
  by_cases h3 : s < 1
  · have t3 : decide (s < 1) = true := decide_eq_true h3
    have HE := Lib.hid (show setupE m s = 2 by unfold setupE; rw [if_neg (by omega), if_pos (.inl h3)])
    go_enter Try.func7, Try.ntmps7
    go_wp2
    go_ret
    refine ⟨by rw [HE.out]; rfl, ?_⟩
    repeat' (first | exact Below.refl _ _ | assumption | with_reducible refine below_drewN ?_ _ | with_reducible refine Below.drew ?_ | with_reducible refine Below.setCell ?_ ?_ _ | with_reducible refine Below.alloc ?_ ?_ _ | (simp; done) | (simp; omega))
  have t3 : decide (s < 1) = false := decide_eq_false h3
  by_cases h4 : 4 < s
  · have t4 : decide (4 < s) = true := decide_eq_true h4
    have HE := Lib.hid (show setupE m s = 2 by unfold setupE; rw [if_neg (by omega), if_pos (.inr h4)])
    go_enter Try.func7, Try.ntmps7
    go_wp2
    go_ret
    refine ⟨by rw [HE.out]; rfl, ?_⟩
    repeat' (first | exact Below.refl _ _ | assumption | with_reducible refine below_drewN ?_ _ | with_reducible refine Below.drew ?_ | with_reducible refine Below.setCell ?_ ?_ _ | with_reducible refine Below.alloc ?_ ?_ _ | (simp; done) | (simp; omega))
  have t4 : decide (4 < s) = false := decide_eq_false h4
  have HE := Lib.hid (show setupE m s = 0 by unfold setupE; rw [if_neg (by omega), if_neg (by omega)])
  go_enter Try.func7, Try.ntmps7
  go_wp2
  go_ret
  refine ⟨by rw [HE.out]; rfl, ?_⟩
  repeat' (first | exact Below.refl _ _ | assumption | with_reducible refine below_drewN ?_ _ | with_reducible refine Below.drew ?_ | with_reducible refine Below.setCell ?_ ?_ _ | with_reducible refine Below.alloc ?_ ?_ _ | (simp; done) | (simp; omega))
set_option maxHeartbeats 1000000 in
theorem setupFault_any (m s : Int) (w : World) : Calls Try.prog 8 #[.agg #[.int .i64 m, .int .i64 s]] w fun e w' => e = .returned (.int .i64 (setupE m s)) ∧ Below w.heap.size w w' := by
  by_cases h1 : 1 ≤ m ∧ m ≤ 3
  · have t1 : (decide (1 ≤ m) && decide (m ≤ 3)) = true := by simp [h1]
    by_cases h2 : 1 ≤ s ∧ s ≤ 4
    · have t2 : (decide (1 ≤ s) && decide (s ≤ 4)) = true := by simp [h2]
      have HE := Lib.hid (show setupE m s = 0 by unfold setupE; rw [if_neg (by omega), if_neg (by omega)])
      go_enter Try.func8, Try.ntmps8
      go_wp2_with fail
      refine (inN_any m 1 3 _).mono ?_
      rw [t1]
      rintro e w1 ⟨rfl, rfl⟩
      go_wp2_with fail
      refine (inN_any s 1 4 _).mono ?_
      rw [t2]
      rintro e w1 ⟨rfl, rfl⟩
      go_wp2
      go_ret
      refine ⟨by rw [HE.out]; rfl, ?_⟩
      repeat' (first | exact Below.refl _ _ | assumption | with_reducible refine below_drewN ?_ _ | with_reducible refine Below.drew ?_ | with_reducible refine Below.setCell ?_ ?_ _ | with_reducible refine Below.alloc ?_ ?_ _ | (simp; done) | (simp; omega))
    · have t2 : (decide (1 ≤ s) && decide (s ≤ 4)) = false := by rw [Bool.and_eq_false_iff, decide_eq_false_iff_not, decide_eq_false_iff_not]; omega
      have HE := Lib.hid (show setupE m s = 2 by unfold setupE; rw [if_neg (by omega), if_pos (by omega)])
      go_enter Try.func8, Try.ntmps8
      go_wp2_with fail
      refine (inN_any m 1 3 _).mono ?_
      rw [t1]
      rintro e w1 ⟨rfl, rfl⟩
      go_wp2_with fail
      refine (inN_any s 1 4 _).mono ?_
      rw [t2]
      rintro e w1 ⟨rfl, rfl⟩
      go_wp2
      go_ret
      refine ⟨by rw [HE.out]; rfl, ?_⟩
      repeat' (first | exact Below.refl _ _ | assumption | with_reducible refine below_drewN ?_ _ | with_reducible refine Below.drew ?_ | with_reducible refine Below.setCell ?_ ?_ _ | with_reducible refine Below.alloc ?_ ?_ _ | (simp; done) | (simp; omega))
  · have t1 : (decide (1 ≤ m) && decide (m ≤ 3)) = false := by rw [Bool.and_eq_false_iff, decide_eq_false_iff_not, decide_eq_false_iff_not]; omega
    have HE := Lib.hid (show setupE m s = 3 by unfold setupE; rw [if_pos (by omega)])
    go_enter Try.func8, Try.ntmps8
    go_wp2_with fail
    refine (inN_any m 1 3 _).mono ?_
    rw [t1]
    rintro e w1 ⟨rfl, rfl⟩
    go_wp2
    go_ret
    refine ⟨by rw [HE.out]; rfl, ?_⟩
    repeat' (first | exact Below.refl _ _ | assumption | with_reducible refine below_drewN ?_ _ | with_reducible refine Below.drew ?_ | with_reducible refine Below.setCell ?_ ?_ _ | with_reducible refine Below.alloc ?_ ?_ _ | (simp; done) | (simp; omega))
end Go.Proofs.Ytpbaobmegomfpab

/-
  The walk of the law PoolSetups.
-/
namespace Go.Proofs.Ytpbaobmegomfpab
open Go.RowKit
set_option linter.unusedVariables false
set_option linter.unusedSimpArgs false
set_option maxRecDepth 100000

theorem bel_add9 {B : Nat} {a b c : World} (h : Below B a b) (k : Below b.heap.size b c) (hB : B ≤ b.heap.size) : Below B a c := h.trans (k.mono hB)
theorem walk_PoolSetups (m s : Int) (hm : (Lit.int .i64 m).wf = true) (hs : (Lit.int .i64 s).wf = true) (w : World) :
    Calls Try.prog 4 #[.agg #[.int .i64 m, .int .i64 s]] w fun e w' => e = .returned (.bool true) ∧ Below w.heap.size w w' := by
  have t : (setupE m s == setupE m s) = true := by simp
  go_enter Try.func4, Try.ntmps4
  go_wp2_with fail
  refine (checkSetup_any m s _).mono ?_
  rintro e w1 ⟨rfl, hb1⟩
  have B1 := bel_add9 ((Below.refl w.heap.size w).alloc (Nat.le_refl _) (.cells #[.int .i64 m, .int .i64 s] 30)) hb1 (by simp)
  have c0 := (hb1.cell (p := ⟨w.heap.size, 0, none⟩) (by simp)).trans (show (w.alloc (.cells #[.int .i64 m, .int .i64 s] 30)).cell? ⟨w.heap.size, 0, none⟩ = some (.int .i64 m) by simp [go_sem])
  have c1 := (hb1.cell (p := ⟨w.heap.size, 1, none⟩) (by simp)).trans (show (w.alloc (.cells #[.int .i64 m, .int .i64 s] 30)).cell? ⟨w.heap.size, 1, none⟩ = some (.int .i64 s) by simp [go_sem])
  have HB1 := Lib.hid B1
  clear hb1 B1
  go_wp2_with fail
  refine (setupFault_any m s _).mono ?_
  rintro e w2 ⟨rfl, hb2⟩
  have B2 := Lib.hid (bel_add9 HB1.out hb2 HB1.out.size)
  clear hb2
  go_wp2
  go_ret
  exact ⟨rfl, B2.out⟩
end Go.Proofs.Ytpbaobmegomfpab

