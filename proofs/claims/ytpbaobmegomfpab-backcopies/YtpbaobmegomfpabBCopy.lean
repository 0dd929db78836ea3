/-
  Walks of back.copyPairs.
-/
import Derived.Test.YtpbaobmegomfpabMem
import Derived.Test.YtpbaobmegomfpabRows
import Derived.Test.YtpbaobmegomfpabClone
import Derived.Laws.MakeOwn
import Derived.Laws.Entries
import Derived.Deep.RegionHeld3
import Derived.Deep.RegionWith
namespace Go.Proofs.Ytpbaobmegomfpab
open Go.RowKit
set_option linter.unusedVariables false
set_option maxRecDepth 100000

theorem madeCells_size (cs : Array Value) (n : Nat) : (madeCells cs n).size = n := by simp [madeCells]
theorem pair_info : (Try.prog.info? 40).map (fun i => (i.zero, i.size, i.bytes)) = some (some (.agg #[.string ⟨#[]⟩, .string ⟨#[]⟩]), 2, 32) := by kernel_rfl
theorem make_pairs (n : Nat) (h : n * 32 ≤ 140737488351232) (w : World) :
    (Instr.makeSlice 22 (.int .i64 (n : Int)) (.int .i64 (n : Int))).run Try.prog w = .ok (.slice (some ⟨w.heap.size, 0, none⟩) n n) (w.alloc (.cells (madeCells (Value.agg #[.string ⟨#[]⟩, .string ⟨#[]⟩]).cells (n * 2)) 40)) := by
  obtain ⟨i0, hi, hz0, hz1, hz2⟩ := info_parts pair_info
  have hr := run_make (P := Try.prog) w 22 40 i0 _ Try.underlying22 hi hz0 .i64 .i64 (n : Int) (n : Int) (by omega) (Int.le_refl _) (by rw [hz2]; omega) (by omega)
  rw [hz1] at hr
  simpa only [Int.toNat_natCast] using hr
theorem cell_set2 {w : World} {b R i j k : Nat} {u x y : Value} (h : w.cell? ⟨b, i, none⟩ = some u) (hne : b ≠ R) :
    ((w.setCell ⟨R, j, none⟩ x).setCell ⟨R, k, none⟩ y).cell? ⟨b, i, none⟩ = some u := by
  simp [go_sem, h]
/-- a cell of a block that was just laid -/
theorem cell_neu (w : World) (cs : Array Value) (t : TypeId) (i : Nat) (h : i < cs.size) : (w.alloc (.cells cs t)).cell? ⟨w.heap.size, i, none⟩ = some cs[i] := by
  rw [World.cell?_alloc_at _ _ _ _ rfl, Array.getElem?_eq_getElem h]
theorem bel_add {B : Nat} {a b c : World} (h : Below B a b) (k : Below b.heap.size b c) (hB : B ≤ b.heap.size) : Below B a c := h.trans (k.mono hB)
theorem bel_addN {B n : Nat} {a b c : World} (h : Below B a b) (k : Below (b.drewN n).heap.size (b.drewN n) c) (hB : B ≤ b.heap.size) : Below B a c :=
  h.trans ⟨k.os, k.tape, k.output, k.size, fun i hi => k.block i (Nat.lt_of_lt_of_le hi hB)⟩

set_option maxHeartbeats 1000000 in
theorem copyPairs_any (v : Value) (l : PL) (w : World) (hl : Lst w w.heap.size v l) :
    Calls Try.prog 9 #[v] w fun e w' => ∃ g, e = .returned (.slice (some ⟨g, 0, none⟩) l.length l.length) ∧ w.heap.size ≤ g ∧ RowTo w' g 40 (l.length * 2) (flat l) ∧ Below w.heap.size w w' := by
  obtain ⟨A, c, rfl, hc⟩ := hl.form
  have hby := hl.bytes
  have hmk := make_pairs l.length hby
  have HL := Lib.hid hl
  clear hl
  go_enter Try.func9, Try.ntmps9
  go_wp2
  clear hmk
  go_loopw [11] (fun i wr => ∃ k : Nat, k ≤ l.length ∧ i = .int .i64 k ∧ RowTo wr w.heap.size 40 (l.length * 2) (flat (l.take k)) ∧ Below w.heap.size w wr) (fun i _ => l.length - (intOf i).toNat)
  case atStart =>
    refine ⟨0, by omega, rfl, ?_, (Below.refl _ _).alloc (Nat.le_refl _) _⟩
    have := RowTo.new w (madeCells #[.string ⟨#[]⟩, .string ⟨#[]⟩] (l.length * 2)) 40
    rw [madeCells_size] at this
    exact this
  case round =>
    obtain ⟨k, hk, rfl, hrow, bel⟩ := hrel
    by_cases hlt : k < l.length
    · obtain ⟨b, off, rfl, hb, c0, c1⟩ := HL.out.pt hlt
      obtain ⟨z0, z1⟩ := HL.out.key hlt
      have hwlt := hrow.lt
      have d0 := (bel.cell (p := ⟨b, off + k * 2, none⟩) hb).trans c0
      have d1 := (bel.cell (p := ⟨b, off + k * 2 + 1, none⟩) hb).trans c1
      have HS := Lib.hid (flat_step l k hlt)
      have hlen := Lib.hid (show (flat (l.take k)).length = k * 2 by rw [flat_length, List.length_take]; omega)
      have HR := Lib.hid hrow
      have HB := Lib.hid bel
      clear hrow bel c0 c1
      go_wp2
      clear d0 d1
      generalize hq0 : l[k].1 = s0 at *
      generalize hq1 : l[k].2 = s1 at *
      have HQ := Lib.hid (And.intro hq0 hq1)
      clear hq0 hq1
      have e0 := cell_neu wr #[.string s0, .string s1] 40 0 (by simp)
      have e1 := cell_neu wr #[.string s0, .string s1] 40 1 (by simp)
      simp only [List.getElem_toArray, List.getElem_cons_zero, List.getElem_cons_succ] at e0 e1
      have R0 := Lib.hid (HR.out.alloc (.cells #[.string s0, .string s1] 40))
      have B0 := Lib.hid (HB.out.alloc HB.out.size (.cells #[.string s0, .string s1] 40))
      have hz0 : wr.heap.size < (wr.alloc (.cells #[.string s0, .string s1] 40)).heap.size := by simp
      generalize wr.alloc (.cells #[.string s0, .string s1] 40) = W0 at *
      have kb := Below.refl W0.heap.size W0
      have hz1 : w.heap.size < W0.heap.size := by omega
      have hne : wr.heap.size ≠ w.heap.size := by omega
      go_region_held3 (fun wx => wx.cell? ⟨wr.heap.size, 0, none⟩ = some (.string s0) ∧ wx.cell? ⟨wr.heap.size, 1, none⟩ = some (.string s1))
        (first | exact ⟨e0, e1⟩ | exact ⟨cell_set2 ((kb.cell (p := ⟨wr.heap.size, 0, none⟩) hz0).trans e0) hne, cell_set2 ((kb.cell (p := ⟨wr.heap.size, 1, none⟩) hz0).trans e1) hne⟩ | exact ⟨(kb.cell (p := ⟨wr.heap.size, 0, none⟩) hz0).trans e0, (kb.cell (p := ⟨wr.heap.size, 1, none⟩) hz0).trans e1⟩)
        (first
          | (
            go_at_call_of 12 (Value.string s0)
            refine (clone_any s0 _ (by omega)).mono ?_
            rintro e w3 ⟨rfl, hy⟩
            have kb : Below W0.heap.size W0 w3 := by first | exact bel_add kb hy kb.size | exact bel_addN kb hy kb.size
            have R1 := Lib.hid (R0.out.below kb hz1)
            obtain ⟨u0, f0⟩ := R1.out.any (j := k * 2) (by omega)
            obtain ⟨u1, f1⟩ := R1.out.any (j := k * 2 + 1) (by omega)
            have g0 := R1.out.frozen (k * 2)
            have g1 := R1.out.frozen (k * 2 + 1))
          | (
            go_at_call_of 12 (Value.string s1)
            refine (clone_any s1 _ (by omega)).mono ?_
            rintro e w3 ⟨rfl, hy⟩
            have kb : Below W0.heap.size W0 w3 := by first | exact bel_add kb hy kb.size | exact bel_addN kb hy kb.size
            have R1 := Lib.hid (R0.out.below kb hz1)
            obtain ⟨u0, f0⟩ := R1.out.any (j := k * 2) (by omega)
            obtain ⟨u1, f1⟩ := R1.out.any (j := k * 2 + 1) (by omega)
            have g0 := R1.out.frozen (k * 2)
            have g1 := R1.out.frozen (k * 2 + 1)))
      go_wp2
      go_roundw
      case rel =>
        have l1 := hlen.out
        refine ⟨k + 1, by omega, by go_num, ?_, ?_⟩
        · rw [HS.out]
          exact (R1.out.push (by omega) _ l1.symm).push (by simp; omega) _ (by simp; omega)
        · exact ((B0.out.trans (kb.mono (by omega))).setCell (Nat.le_refl _) _).setCell (Nat.le_refl _) _
      case measure => simp [intOf]; omega
    · go_wp2
      go_ret
      refine ⟨w.heap.size, rfl, Nat.le_refl _, ?_, bel⟩
      rw [List.take_of_length_le (by omega)] at hrow
      exact hrow
end Go.Proofs.Ytpbaobmegomfpab
