/-
  The walk of the law BackChecks.
-/
import Derived.Test.YtpbaobmegomfpaaDoorBCheck
import Derived.Test.YtpbaobmegomfpaaDoorRefMay2
import Derived.Test.YtpbaobmegomfpaaDoorLaidWords
namespace Go.Proofs.YtpbaobmegomfpaaDoor
open Go.RowKit
set_option linter.unusedVariables false
set_option linter.unusedSimpArgs false
set_option maxRecDepth 100000

theorem backChecks.laidFacts {W : World} (h : laidMetH Tryd.prog Rows.backChecksRow.laid W) : Words W := words_of h (by simp [Rows.backChecksRow, Rows.laid_tillerman_say_words, List.range, List.range.loop, wordL])

set_option maxHeartbeats 400000 in
theorem walk_BackChecks (r s : Value) (W : Wd) (w : World) (hW : Wld w w.heap.size r s W) (hWo : Words w) :
    Calls Tryd.prog 10 #[.agg #[r, s]] w fun e w' => e = .returned (.bool true) ∧ Below w.heap.size w w' := by
  obtain ⟨A, c, rfl, hc⟩ := hW.sess.form
  obtain ⟨D, d, rfl, hd⟩ := hW.rows.form
  have HW := Lib.hid hW
  have HWo := Lib.hid hWo
  clear hW hWo
  have b0 : Below w.heap.size w (w.alloc (.cells #[.slice D W.rows.length d, .slice A W.ss.length c] 49)) := (Below.refl _ _).alloc (Nat.le_refl _) _
  have HX := Lib.hid (RowTo.whole w #[.slice D W.rows.length d, .slice A W.ss.length c] 49)
  cases hb : worldB W
  all_goals
    first | have HC := Lib.hid (checkW_no hb) | have HC := Lib.hid (checkW_ok hb)
    have HB := Lib.hid hb
    clear hb
    go_enter Tryd.func10, Tryd.ntmps10
    go_wp2_with fail
    refine (backCheck_any _ _ W _ (HW.out.step b0) (HWo.out.below b0)).mono ?_
    rw [HC.out]
    rintro e w1 ⟨rfl, hb1⟩
    have HX1 := HX.out.below hb1 HX.out.lt
    have x0 := HX1.cell (j := 0) (by simp)
    have x1 := HX1.cell (j := 1) (by simp)
    simp only [List.getElem_cons_zero, List.getElem_cons_succ] at x0 x1
    have b1 := bel_add' b0 hb1 b0.size
    clear HX1
    go_wp2_with fail
    refine (worldMay_any _ _ W _ (HW.out.step b1)).mono ?_
    rw [HB.out]
    rintro e w2 ⟨rfl, hb2⟩
    go_wp2
    go_ret
    exact ⟨rfl, bel_add' b1 hb2 b1.size⟩
end Go.Proofs.YtpbaobmegomfpaaDoor
