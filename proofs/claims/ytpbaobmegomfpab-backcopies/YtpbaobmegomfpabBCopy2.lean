/-
  Walks of back.Copy.
-/
import Derived.Test.YtpbaobmegomfpabBCopy
import Derived.Test.YtpbaobmegomfpabWld
namespace Go.Proofs.Ytpbaobmegomfpab
open Go.RowKit
set_option linter.unusedVariables false
set_option maxRecDepth 100000

theorem sess_info : (Try.prog.info? 35).map (fun i => (i.zero, i.size, i.bytes)) = some (some (.agg #[.int .i64 0, .slice none 0 0, .slice none 0 0, .slice none 0 0, .slice none 0 0]), 5, 104) := by kernel_rfl
theorem make_sess (n : Nat) (h : n * 104 ≤ 140737488351232) (w : World) :
    (Instr.makeSlice 23 (.int .i64 (n : Int)) (.int .i64 (n : Int))).run Try.prog w = .ok (.slice (some ⟨w.heap.size, 0, none⟩) n n) (w.alloc (.cells (madeCells (Value.agg #[.int .i64 0, .slice none 0 0, .slice none 0 0, .slice none 0 0, .slice none 0 0]).cells (n * 5)) 35)) := by
  obtain ⟨i0, hi, hz0, hz1, hz2⟩ := info_parts sess_info
  have hr := run_make (P := Try.prog) w 23 35 i0 _ Try.underlying23 hi hz0 .i64 .i64 (n : Int) (n : Int) (by omega) (Int.le_refl _) (by rw [hz2]; omega) (by omega)
  rw [hz1] at hr
  simpa only [Int.toNat_natCast] using hr

/-- a copy in blocks of its own -/
structure OwnW (w : World) (base gR S : Nat) (G : Nat → Nat → Nat) (W : Wd) : Prop where
  rows : RowTo w gR 40 (W.rows.length * 2) (flat W.rows)
  sess : OwnS w base S W.ss.length G W.ss W.ss.length
  loR : base ≤ gR
  loS : base ≤ S
  neS : gR ≠ S
  neG : ∀ i j, i < W.ss.length → j < 4 → G i j ≠ gR
def CopyPost (w : World) (W : Wd) (e : Ending) (w' : World) : Prop :=
  ∃ gR S G, e = .returned (.agg #[sl gR W.rows.length, sl S W.ss.length]) ∧ OwnW w' w.heap.size gR S G W ∧ Below w.heap.size w w'

theorem cell_set5' {w : World} {b R i o : Nat} {u a0 a1 a2 a3 a4 : Value} (h : w.cell? ⟨b, i, none⟩ = some u) (hne : b ≠ R) :
    (((((w.setCell ⟨R, o, none⟩ a0).setCell ⟨R, o + 1, none⟩ a1).setCell ⟨R, o + 2, none⟩ a2).setCell ⟨R, o + 3, none⟩ a3).setCell ⟨R, o + 4, none⟩ a4).cell? ⟨b, i, none⟩ = some u :=
  (set5_cell (p := ⟨b, i, none⟩) hne).trans h
def CopyRel (w : World) (W : Wd) (r s : Value) (k : Nat) (wr : World) : Prop :=
  ∃ G, OwnS wr (w.heap.size + 1 + 1) (w.heap.size + 1 + 1) W.ss.length G W.ss k ∧ RowTo wr w.heap.size 25 2 [r, s] ∧ RowTo wr (w.heap.size + 1) 25 2 [] ∧ Below w.heap.size w wr

set_option maxHeartbeats 4000000 in
theorem copy_any (r s : Value) (W : Wd) (w : World) (hW : Wld w w.heap.size r s W) :
    Calls Try.prog 5 #[.agg #[r, s]] w (CopyPost w W) := by
  obtain ⟨hr, hs⟩ := hW
  obtain ⟨A, c, rfl, hc⟩ := hs.form
  obtain ⟨A', c', rfl, hc'⟩ := hr.form
  have hby := hs.bytes
  have hmk := make_sess W.ss.length hby
  have HS := Lib.hid hs
  have HR := Lib.hid hr
  clear hs hr
  go_enter Try.func5, Try.ntmps5
  go_wp2
  clear hmk
  go_loopw [13] (fun i wr => ∃ k : Nat, k ≤ W.ss.length ∧ i = .int .i64 k ∧ CopyRel w W (.slice A' W.rows.length c') (.slice A W.ss.length c) k wr) (fun i _ => W.ss.length - (intOf i).toNat)
  case atStart =>
    refine ⟨0, by omega, rfl, fun _ _ => 0, ⟨?_, fun i _ h => absurd h (by omega), fun i j _ h => absurd h (by omega), fun i j _ h => absurd h (by omega), fun i j h => absurd h (by omega), fun i j h => absurd h (by omega), fun i j i' j' h => absurd h (by omega)⟩, ?_, ?_, ?_⟩
    · have := RowTo.new ((w.alloc (.cells #[.slice A' W.rows.length c', .slice A W.ss.length c] 25)).alloc (.cells #[.slice none 0 0, .slice none 0 0] 25)) (madeCells #[.int .i64 0, .slice none 0 0, .slice none 0 0, .slice none 0 0, .slice none 0 0] (W.ss.length * 5)) 35
      rw [madeCells_size] at this
      simpa using this
    · exact ((RowTo.whole w #[.slice A' W.rows.length c', .slice A W.ss.length c] 25).alloc _).alloc _
    · have := (RowTo.new (w.alloc (.cells #[.slice A' W.rows.length c', .slice A W.ss.length c] 25)) #[.slice none 0 0, .slice none 0 0] 25).alloc (.cells (madeCells #[.int .i64 0, .slice none 0 0, .slice none 0 0, .slice none 0 0, .slice none 0 0] (W.ss.length * 5)) 35)
      simpa using this
    · repeat' (first | exact Below.refl _ _ | assumption | with_reducible refine below_drewN ?_ _ | with_reducible refine Below.drew ?_ | with_reducible refine Below.setCell ?_ ?_ _ | with_reducible refine Below.alloc ?_ ?_ _ | (simp; done) | (simp; omega))
  case round =>
    obtain ⟨k, hk, rfl, G, hown, hbox, hres, bel⟩ := hrel
    by_cases hlt : k < W.ss.length
    · obtain ⟨b, off, v1, v2, v3, v4, rfl, hb, hses⟩ := HS.out.pt hlt
      generalize hsk : W.ss[k] = s at *
      have HK := Lib.hid hsk
      clear hsk
      obtain ⟨d0, d1, d2, d3, d4, l1, l2, l3, l4⟩ := hses.keep (w' := wr) hb (Nat.le_refl _) fun p hp => bel.cell hp
      obtain ⟨A1, c1, rfl, _⟩ := l1.form
      obtain ⟨A2, c2, rfl, _⟩ := l2.form
      obtain ⟨A3, c3, rfl, _⟩ := l3.form
      obtain ⟨A4, c4, rfl, _⟩ := l4.form
      have L1 := Lib.hid hses.l1
      have L2 := Lib.hid hses.l2
      have L3 := Lib.hid hses.l3
      have L4 := Lib.hid hses.l4
      have hwlt := hown.blk.lt
      have HO := Lib.hid hown
      have HX := Lib.hid hbox
      have HY := Lib.hid hres
      have HB := Lib.hid bel
      clear hown hbox hres bel hses l1 l2 l3 l4
      go_wp2
      clear d0 d1 d2 d3 d4
      have e0 := cell_neu wr #[.int .i64 s.st, (.slice A1 s.set.length c1), (.slice A2 s.prep.length c2), (.slice A3 s.sav.length c3), (.slice A4 s.wr.length c4)] 35 0 (by simp)
      have e1 := cell_neu wr #[.int .i64 s.st, (.slice A1 s.set.length c1), (.slice A2 s.prep.length c2), (.slice A3 s.sav.length c3), (.slice A4 s.wr.length c4)] 35 1 (by simp)
      have e2 := cell_neu wr #[.int .i64 s.st, (.slice A1 s.set.length c1), (.slice A2 s.prep.length c2), (.slice A3 s.sav.length c3), (.slice A4 s.wr.length c4)] 35 2 (by simp)
      have e3 := cell_neu wr #[.int .i64 s.st, (.slice A1 s.set.length c1), (.slice A2 s.prep.length c2), (.slice A3 s.sav.length c3), (.slice A4 s.wr.length c4)] 35 3 (by simp)
      have e4 := cell_neu wr #[.int .i64 s.st, (.slice A1 s.set.length c1), (.slice A2 s.prep.length c2), (.slice A3 s.sav.length c3), (.slice A4 s.wr.length c4)] 35 4 (by simp)
      simp only [List.getElem_toArray, List.getElem_cons_zero, List.getElem_cons_succ] at e0 e1 e2 e3 e4
      have R0 := Lib.hid (HO.out.blk.alloc (.cells #[.int .i64 s.st, (.slice A1 s.set.length c1), (.slice A2 s.prep.length c2), (.slice A3 s.sav.length c3), (.slice A4 s.wr.length c4)] 35))
      have A0 := Lib.hid ((Below.refl wr.heap.size wr).alloc (Nat.le_refl _) (.cells #[.int .i64 s.st, (.slice A1 s.set.length c1), (.slice A2 s.prep.length c2), (.slice A3 s.sav.length c3), (.slice A4 s.wr.length c4)] 35))
      have B0 := Lib.hid (HB.out.alloc HB.out.size (.cells #[.int .i64 s.st, (.slice A1 s.set.length c1), (.slice A2 s.prep.length c2), (.slice A3 s.sav.length c3), (.slice A4 s.wr.length c4)] 35))
      have hz0 : wr.heap.size < (wr.alloc (.cells #[.int .i64 s.st, (.slice A1 s.set.length c1), (.slice A2 s.prep.length c2), (.slice A3 s.sav.length c3), (.slice A4 s.wr.length c4)] 35)).heap.size := by simp
      generalize wr.alloc (.cells #[.int .i64 s.st, (.slice A1 s.set.length c1), (.slice A2 s.prep.length c2), (.slice A3 s.sav.length c3), (.slice A4 s.wr.length c4)] 35) = W0 at *
      have kb := Below.refl W0.heap.size W0
      have kbw := B0.out
      have hz1 : w.heap.size + 1 + 1 < W0.heap.size := by omega
      have hne : wr.heap.size ≠ w.heap.size + 1 + 1 := by omega
      have dS0 := Lib.hid (show W0.drew.cell? ⟨wr.heap.size, 0, none⟩ = some (.int .i64 s.st) ∧ W0.drew.cell? ⟨wr.heap.size, 1, none⟩ = some (.slice A1 s.set.length c1) ∧ W0.drew.cell? ⟨wr.heap.size, 2, none⟩ = some (.slice A2 s.prep.length c2) ∧ W0.drew.cell? ⟨wr.heap.size, 3, none⟩ = some (.slice A3 s.sav.length c3) ∧ W0.drew.cell? ⟨wr.heap.size, 4, none⟩ = some (.slice A4 s.wr.length c4) from ⟨e0, e1, e2, e3, e4⟩)
      go_region_held3 (fun wx => wx.cell? ⟨wr.heap.size, 0, none⟩ = some (.int .i64 s.st) ∧ wx.cell? ⟨wr.heap.size, 1, none⟩ = some (.slice A1 s.set.length c1) ∧ wx.cell? ⟨wr.heap.size, 2, none⟩ = some (.slice A2 s.prep.length c2) ∧ wx.cell? ⟨wr.heap.size, 3, none⟩ = some (.slice A3 s.sav.length c3) ∧ wx.cell? ⟨wr.heap.size, 4, none⟩ = some (.slice A4 s.wr.length c4))
        (first
          | with_reducible exact ⟨e0, e1, e2, e3, e4⟩
          | with_reducible exact dS0.out
          | with_reducible exact ⟨cell_set5' ((kb.cell (p := ⟨wr.heap.size, 0, none⟩) hz0).trans e0) hne, cell_set5' ((kb.cell (p := ⟨wr.heap.size, 1, none⟩) hz0).trans e1) hne, cell_set5' ((kb.cell (p := ⟨wr.heap.size, 2, none⟩) hz0).trans e2) hne, cell_set5' ((kb.cell (p := ⟨wr.heap.size, 3, none⟩) hz0).trans e3) hne, cell_set5' ((kb.cell (p := ⟨wr.heap.size, 4, none⟩) hz0).trans e4) hne⟩
          | with_reducible exact ⟨(kb.cell (p := ⟨wr.heap.size, 0, none⟩) hz0).trans e0, (kb.cell (p := ⟨wr.heap.size, 1, none⟩) hz0).trans e1, (kb.cell (p := ⟨wr.heap.size, 2, none⟩) hz0).trans e2, (kb.cell (p := ⟨wr.heap.size, 3, none⟩) hz0).trans e3, (kb.cell (p := ⟨wr.heap.size, 4, none⟩) hz0).trans e4⟩)
        (first
          | (
            go_at_call_of 9 (Value.slice A1 s.set.length c1)
            (with_reducible refine (copyPairs_any (.slice A1 s.set.length c1) s.set _ ?_).mono ?_)
            case refine_1 => first | exact L1.out.step kbw | exact L1.out.step kbw.drew | exact L1.out.step (below_drewN kbw _)
            rintro e w3 ⟨g0, rfl, q0, r0, hy⟩
            have kb : Below W0.heap.size W0 w3 := by first | exact bel_add kb hy kb.size | exact bel_addN kb hy kb.size
            have kbw : Below w.heap.size w w3 := bel_add B0.out kb B0.out.size
            have q0 : W0.heap.size ≤ g0 := q0)
          | (
            go_at_call_of 9 (Value.slice A2 s.prep.length c2)
            (with_reducible refine (copyPairs_any (.slice A2 s.prep.length c2) s.prep _ ?_).mono ?_)
            case refine_1 => first | exact L2.out.step kbw | exact L2.out.step kbw.drew | exact L2.out.step (below_drewN kbw _)
            rintro e w3 ⟨g1, rfl, q1, r1, hy⟩
            have kb : Below W0.heap.size W0 w3 := by first | exact bel_add kb hy kb.size | exact bel_addN kb hy kb.size
            have kbw : Below w.heap.size w w3 := bel_add B0.out kb B0.out.size
            have q1 : g0 < g1 := Nat.lt_of_lt_of_le r0.lt q1
            have r0 := r0.below hy r0.lt)
          | (
            go_at_call_of 9 (Value.slice A3 s.sav.length c3)
            (with_reducible refine (copyPairs_any (.slice A3 s.sav.length c3) s.sav _ ?_).mono ?_)
            case refine_1 => first | exact L3.out.step kbw | exact L3.out.step kbw.drew | exact L3.out.step (below_drewN kbw _)
            rintro e w3 ⟨g2, rfl, q2, r2, hy⟩
            have kb : Below W0.heap.size W0 w3 := by first | exact bel_add kb hy kb.size | exact bel_addN kb hy kb.size
            have kbw : Below w.heap.size w w3 := bel_add B0.out kb B0.out.size
            have q2 : g1 < g2 := Nat.lt_of_lt_of_le r1.lt q2
            have r0 := r0.below hy r0.lt
            have r1 := r1.below hy r1.lt)
          | (
            go_at_call_of 9 (Value.slice A4 s.wr.length c4)
            (with_reducible refine (copyPairs_any (.slice A4 s.wr.length c4) s.wr _ ?_).mono ?_)
            case refine_1 => first | exact L4.out.step kbw | exact L4.out.step kbw.drew | exact L4.out.step (below_drewN kbw _)
            rintro e w3 ⟨g3, rfl, q3, r3, hy⟩
            have kb : Below W0.heap.size W0 w3 := by first | exact bel_add kb hy kb.size | exact bel_addN kb hy kb.size
            have kbw : Below w.heap.size w w3 := bel_add B0.out kb B0.out.size
            have q3 : g2 < g3 := Nat.lt_of_lt_of_le r2.lt q3
            have r0 := r0.below hy r0.lt
            have r1 := r1.below hy r1.lt
            have r2 := r2.below hy r2.lt
            have Rb := Lib.hid (R0.out.below kb hz1)
            obtain ⟨u0, f0⟩ := Rb.out.any (j := k * 5) (by omega)
            obtain ⟨u1, f1⟩ := Rb.out.any (j := k * 5 + 1) (by omega)
            obtain ⟨u2, f2⟩ := Rb.out.any (j := k * 5 + 2) (by omega)
            obtain ⟨u3, f3⟩ := Rb.out.any (j := k * 5 + 3) (by omega)
            obtain ⟨u4, f4⟩ := Rb.out.any (j := k * 5 + 4) (by omega)
            have y0 := Rb.out.frozen (k * 5)
            have y1 := Rb.out.frozen (k * 5 + 1)
            have y2 := Rb.out.frozen (k * 5 + 2)
            have y3 := Rb.out.frozen (k * 5 + 3)
            have y4 := Rb.out.frozen (k * 5 + 4)))
      go_wp2
      go_roundw
      case rel =>
        refine ⟨k + 1, by omega, by go_num, (fun i j => if i = k then pick4 g0 g1 g2 g3 j else G i j), ?_, ?_, ?_, ?_⟩
        · have hk' := HK.out
          subst hk'
          exact HO.out.step hlt rfl (by omega) (A0.out.trans (kb.mono (by omega))) r0 r1 r2 r3 (by omega) q1 q2 q3
        · have := (HX.out.below (A0.out.trans (kb.mono (by omega))) HX.out.lt)
          exact set5_other this (by omega)
        · have := (HY.out.below (A0.out.trans (kb.mono (by omega))) HY.out.lt)
          exact set5_other this (by omega)
        · exact set5_below kbw (by omega)
      case measure => simp [intOf]; omega
    · obtain rfl : k = W.ss.length := by omega
      have x0 := hbox.cell (j := 0) (by simp)
      have x1 := hbox.cell (j := 1) (by simp)
      simp only [List.getElem_cons_zero, List.getElem_cons_succ] at x0 x1
      have HO := Lib.hid hown
      have HY := Lib.hid hres
      have HB := Lib.hid bel
      have hwlt := hown.blk.lt
      clear hown hbox hres bel
      go_wp2_with fail
      refine (copyPairs_any _ W.rows _ (HR.out.step HB.out)).mono ?_
      rintro e w3 ⟨g, rfl, q, rr, hy⟩
      have Y3 := HY.out.below hy HY.out.lt
      obtain ⟨u0, f0⟩ := Y3.any (j := 0) (by omega)
      obtain ⟨u1, f1⟩ := Y3.any (j := 1) (by omega)
      have y0 := Y3.frozen 0
      have y1 := Y3.frozen 1
      have HR3 := Lib.hid rr
      have HY3 := Lib.hid Y3
      clear rr Y3
      go_wp2
      refine bodyPost_ret (v := .agg #[.slice (some ⟨g, 0, none⟩) W.rows.length W.rows.length, .slice (some ⟨w.heap.size + 1 + 1, 0, none⟩) W.ss.length W.ss.length]) (by simp [results, Try.results5, go_sem, f0, f1]) rfl ?_
      have O3 := HO.out.kept (Nat.le_refl _) hy
      have hne : w.heap.size + 1 ≠ g := by omega
      refine ⟨g, w.heap.size + 1 + 1, G, rfl, ⟨(HR3.out.other hne _).other hne _, ?_, by omega, by omega, by omega, fun i j hi hj => ?_⟩, ?_⟩
      · have hS := O3.blk.lt
        have hw : ∀ p : Addr, p.block ≠ w.heap.size + 1 → ((w3.setCell ⟨w.heap.size + 1, 0, none⟩ (.slice (some ⟨g, 0, none⟩) W.rows.length W.rows.length)).setCell ⟨w.heap.size + 1, 1, none⟩ (.slice (some ⟨w.heap.size + 1 + 1, 0, none⟩) W.ss.length W.ss.length)).cell? p = w3.cell? p := fun p hp => by
          rw [World.cell?_setCell_other _ _ _ _ (fun e => hp (by rw [← e])), World.cell?_setCell_other _ _ _ _ (fun e => hp (by rw [← e]))]
        have hG : ∀ i j, i < W.ss.length → j < 4 → w.heap.size + 1 ≠ G i j := fun i j hi hj e => by have := HO.out.lo i j hi hj; omega
        refine ⟨(O3.blk.other (by simp) _).other (by simp) _, fun i hi hik => (hw _ (by simp)).trans (O3.st i hi hik), fun i j hi hik hj => (hw _ (by simp)).trans (O3.cs i j hi hik hj), fun i j hi hik hj => ((O3.ls i j hi hik hj).other (hG i j hik hj) _).other (hG i j hik hj) _, fun i j hi hj => by have := O3.lo i j hi hj; omega, O3.ne, O3.inj⟩
      · have := (HO.out.ls i j hi hi hj).lt
        omega
      · exact ((bel_add HB.out hy HB.out.size).setCell (by simp) _).setCell (by simp) _
end Go.Proofs.Ytpbaobmegomfpab
