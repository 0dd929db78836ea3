/-
  The walk of the law BackCopies.
-/
import Derived.Test.YteiagimamjhgnabBCopy2
import Derived.Test.YteiagimamjhgnabSame
namespace Go.Proofs.Yteiagimamjhgnab
open Go.RowKit
set_option linter.unusedVariables false
set_option maxRecDepth 100000

theorem OwnW.wld {w : World} {base gR S : Nat} {G : Nat → Nat → Nat} {W : Wd} (h : OwnW w base gR S G W) {w0 : World} {r s : Value} {B0 : Nat} (h0 : Wld w0 B0 r s W) : Wld w w.heap.size (sl gR W.rows.length) (sl S W.ss.length) W := by
  refine ⟨h.rows.lst (Nat.le_refl _) h.rows.lt h0.rows.bytes h0.rows.sizes, ⟨⟨_, _, rfl, Nat.le_refl _⟩, h0.sess.bytes, fun hn => ⟨S, 0, W.ss.length, rfl, h.sess.blk.lt, fun i hi => ?_⟩⟩⟩
  obtain ⟨b, off, c, e, hb, hc⟩ := h0.sess.cells hn
  obtain ⟨v1, v2, v3, v4, hs⟩ := hc i hi
  have hc0 := h.sess.st i hi hi
  have hc1 := h.sess.cs i 0 hi hi (by omega)
  have hc2 := h.sess.cs i 1 hi hi (by omega)
  have hc3 := h.sess.cs i 2 hi hi (by omega)
  have hc4 := h.sess.cs i 3 hi hi (by omega)
  have l1 := h.sess.ls i 0 hi hi (by omega)
  have l2 := h.sess.ls i 1 hi hi (by omega)
  have l3 := h.sess.ls i 2 hi hi (by omega)
  have l4 := h.sess.ls i 3 hi hi (by omega)
  rw [Nat.zero_add]
  exact ⟨_, _, _, _, hc0, hc1, hc2, hc3, hc4, l1.lst (Nat.le_refl _) l1.lt hs.l1.bytes hs.l1.sizes, l2.lst (Nat.le_refl _) l2.lt hs.l2.bytes hs.l2.sizes, l3.lst (Nat.le_refl _) l3.lt hs.l3.bytes hs.l3.sizes, l4.lst (Nat.le_refl _) l4.lt hs.l4.bytes hs.l4.sizes⟩

set_option maxHeartbeats 400000 in
theorem walk_BackCopies (r s : Value) (W : Wd) (w : World) (hW : Wld w w.heap.size r s W) :
    Calls Try.prog 3 #[.agg #[r, s]] w fun e w' => e = .returned (.bool true) ∧ Below w.heap.size w w' := by
  obtain ⟨A, c, rfl, hc⟩ := hW.sess.form
  obtain ⟨D, d, rfl, hd⟩ := hW.rows.form
  have HW := Lib.hid hW
  clear hW
  go_enter Try.func3, Try.ntmps3
  go_wp2_with fail
  have b0 : Below w.heap.size w (w.alloc (.cells #[.slice D W.rows.length d, .slice A W.ss.length c] 25)) := (Below.refl _ _).alloc (Nat.le_refl _) _
  refine (copy_any _ _ W _ (HW.out.step b0)).mono ?_
  rintro e w1 ⟨gR, S, G, rfl, hown, hb⟩
  have b1 := bel_add b0 hb b0.size
  have HO := Lib.hid (hown.wld HW.out)
  clear hown
  unfold sl at HO ⊢
  have X1 := (RowTo.whole w #[.slice D W.rows.length d, .slice A W.ss.length c] 25).below hb (by simp)
  have x0 := X1.cell (j := 0) (by simp)
  have x1 := X1.cell (j := 1) (by simp)
  simp only [List.getElem_cons_zero, List.getElem_cons_succ] at x0 x1
  have xl := X1.lt
  clear X1
  go_wp2_with fail
  have b2 := (Below.refl w1.heap.size w1).alloc (Nat.le_refl _) (.cells #[.slice (some ⟨gR, 0, none⟩) W.rows.length W.rows.length, .slice (some ⟨S, 0, none⟩) W.ss.length W.ss.length] 25)
  have b3 := bel_add b1 b2 b1.size
  refine (sameWorld_same _ _ _ _ W _ (HO.out.step b2) (HW.out.step b3)).mono ?_
  rintro e w4 ⟨rfl, hb4⟩
  go_wp2
  go_ret
  exact ⟨rfl, bel_add b3 hb4 b3.size⟩
end Go.Proofs.Yteiagimamjhgnab
