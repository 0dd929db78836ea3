/-
  The walk of the law BackCopies.
-/
import Derived.Test.YtpbaobmegomfpabBCopy3
import Derived.Test.YtpbaobmegomfpabSame
namespace Go.Proofs.Ytpbaobmegomfpab
open Go.RowKit
set_option linter.unusedVariables false
set_option maxRecDepth 100000

set_option maxHeartbeats 400000 in
theorem walk_BackCopies (r s : Value) (W : Wd) (w : World) (hW : Wld w w.heap.size r s W) :
    Calls Try.prog 3 #[.agg #[r, s]] w fun e w' => e = .returned (.bool true) ∧ Below w.heap.size w w' := by
  obtain ⟨A, c, rfl, hc⟩ := hW.sess.form
  obtain ⟨D, d, rfl, hd⟩ := hW.rows.form
  have HW := Lib.hid hW
  clear hW
  go_enter Try.func3, Try.ntmps3
  go_wp2_with fail
  have b0 : Below w.heap.size w (w.alloc (.cells #[.slice D W.rows.length d, .slice A W.ss.length c] 25)) := (Below.refl _ _).alloc (Nat.le_refl _) _
  refine (copy_any _ _ W _ (HW.out.step b0)).mono ?_
  rintro e w1 ⟨gR, S, G, rfl, hown, hb⟩
  have b1 := bel_add b0 hb b0.size
  have HO := Lib.hid (hown.wld HW.out)
  clear hown
  unfold sl at HO ⊢
  have X1 := (RowTo.whole w #[.slice D W.rows.length d, .slice A W.ss.length c] 25).below hb (by simp)
  have x0 := X1.cell (j := 0) (by simp)
  have x1 := X1.cell (j := 1) (by simp)
  simp only [List.getElem_cons_zero, List.getElem_cons_succ] at x0 x1
  have xl := X1.lt
  clear X1
  go_wp2_with fail
  have b2 := (Below.refl w1.heap.size w1).alloc (Nat.le_refl _) (.cells #[.slice (some ⟨gR, 0, none⟩) W.rows.length W.rows.length, .slice (some ⟨S, 0, none⟩) W.ss.length W.ss.length] 25)
  have b3 := bel_add b1 b2 b1.size
  refine (sameWorld_same _ _ _ _ W _ (HO.out.step b2) (HW.out.step b3)).mono ?_
  rintro e w4 ⟨rfl, hb4⟩
  go_wp2
  go_ret
  exact ⟨rfl, bel_add b3 hb4 b3.size⟩
end Go.Proofs.Ytpbaobmegomfpab
