/-
  A copy of a world reads as it.
-/
import Derived.Test.YtpbaobmegomfpabBCopy2
namespace Go.Proofs.Ytpbaobmegomfpab
open Go.RowKit
set_option linter.unusedVariables false
set_option maxRecDepth 100000

theorem OwnW.wld {w : World} {base gR S : Nat} {G : Nat → Nat → Nat} {W : Wd} (h : OwnW w base gR S G W) {w0 : World} {r s : Value} {B0 : Nat} (h0 : Wld w0 B0 r s W) : Wld w w.heap.size (sl gR W.rows.length) (sl S W.ss.length) W := by
  refine ⟨h.rows.lst (Nat.le_refl _) h.rows.lt h0.rows.bytes h0.rows.sizes, ⟨⟨_, _, rfl, Nat.le_refl _⟩, h0.sess.bytes, fun hn => ⟨S, 0, W.ss.length, rfl, h.sess.blk.lt, fun i hi => ?_⟩⟩⟩
  obtain ⟨b, off, c, e, hb, hc⟩ := h0.sess.cells hn
  obtain ⟨v1, v2, v3, v4, hs⟩ := hc i hi
  have hc0 := h.sess.st i hi hi
  have hc1 := h.sess.cs i 0 hi hi (by omega)
  have hc2 := h.sess.cs i 1 hi hi (by omega)
  have hc3 := h.sess.cs i 2 hi hi (by omega)
  have hc4 := h.sess.cs i 3 hi hi (by omega)
  have l1 := h.sess.ls i 0 hi hi (by omega)
  have l2 := h.sess.ls i 1 hi hi (by omega)
  have l3 := h.sess.ls i 2 hi hi (by omega)
  have l4 := h.sess.ls i 3 hi hi (by omega)
  rw [Nat.zero_add]
  exact ⟨_, _, _, _, hc0, hc1, hc2, hc3, hc4, l1.lst (Nat.le_refl _) l1.lt hs.l1.bytes hs.l1.sizes, l2.lst (Nat.le_refl _) l2.lt hs.l2.bytes hs.l2.sizes, l3.lst (Nat.le_refl _) l3.lt hs.l3.bytes hs.l3.sizes, l4.lst (Nat.le_refl _) l4.lt hs.l4.bytes hs.l4.sizes⟩

end Go.Proofs.Ytpbaobmegomfpab
