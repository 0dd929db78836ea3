/-
  A statement (a struct of a number and two strings) in memory.
-/
import Derived.Test.YtpbaobmegomfpaaDoorSay6
namespace Go.Proofs.YtpbaobmegomfpaaDoor
open Go.RowKit
set_option linter.unusedVariables false

/-- a statement in memory -/
structure Stm (w : World) (b : Nat) (k : Int) (x y : ByteArray) : Prop where
  lt : b < w.heap.size
  c0 : w.cell? ⟨b, 0, none⟩ = some (.int .i64 k)
  c1 : w.cell? ⟨b, 1, none⟩ = some (.string x)
  c2 : w.cell? ⟨b, 2, none⟩ = some (.string y)
  fz : ∀ i, w.frozen? ⟨b, i, none⟩ = false
theorem Stm.below {w w' : World} {b : Nat} {k : Int} {x y : ByteArray} (h : Stm w b k x y) (hb : Below w.heap.size w w') : Stm w' b k x y :=
  ⟨Nat.lt_of_lt_of_le h.lt hb.size, (hb.cell (p := ⟨b, 0, none⟩) h.lt).trans h.c0, (hb.cell (p := ⟨b, 1, none⟩) h.lt).trans h.c1, (hb.cell (p := ⟨b, 2, none⟩) h.lt).trans h.c2,
    fun i => (hb.frozen (p := ⟨b, i, none⟩) h.lt).trans (h.fz i)⟩

theorem Stm.set0 {w : World} {b : Nat} {k k' : Int} {x y : ByteArray} (h : Stm w b k x y) : Stm (w.setCell ⟨b, 0, none⟩ (.int .i64 k')) b k' x y := by
  obtain ⟨lt, c0, c1, c2, fz⟩ := h
  refine ⟨by simpa using lt, ?_, ?_, ?_, fun i => ?_⟩
  · simp [go_sem, c0]
  · simp [go_sem, c1]
  · simp [go_sem, c2]
  · simp [go_sem, fz]
theorem Stm.other {w : World} {b b' i : Nat} {k : Int} {x y : ByteArray} {u : Value} (h : Stm w b k x y) (_ : b ≠ b') : Stm (w.setCell ⟨b', i, none⟩ u) b k x y := by
  obtain ⟨lt, c0, c1, c2, fz⟩ := h
  refine ⟨by simpa using lt, ?_, ?_, ?_, fun i => ?_⟩
  · simp [go_sem, c0]
  · simp [go_sem, c1]
  · simp [go_sem, c2]
  · simp [go_sem, fz]
theorem Stm.new (w : World) (k : Int) (x y : ByteArray) (t : TypeId) : Stm (w.alloc (.cells #[.int .i64 k, .string x, .string y] t)) w.heap.size k x y := by
  refine ⟨by simp, ?_, ?_, ?_, fun i => ?_⟩
  · rw [cell_new _ _ _ 0 (by simp)]; rfl
  · rw [cell_new _ _ _ 1 (by simp)]; rfl
  · rw [cell_new _ _ _ 2 (by simp)]; rfl
  · simp [go_sem]

theorem Stm.set12 {w : World} {b : Nat} {k : Int} {x y x' y' : ByteArray} (h : Stm w b k x y) : Stm ((w.setCell ⟨b, 1, none⟩ (.string x')).setCell ⟨b, 2, none⟩ (.string y')) b k x' y' := by
  obtain ⟨lt, c0, c1, c2, fz⟩ := h
  refine ⟨by simpa using lt, ?_, ?_, ?_, fun i => ?_⟩
  · simp [go_sem, c0]
  · simp [go_sem, c1]
  · simp [go_sem, c2]
  · simp [go_sem, fz]

end Go.Proofs.YtpbaobmegomfpaaDoor
