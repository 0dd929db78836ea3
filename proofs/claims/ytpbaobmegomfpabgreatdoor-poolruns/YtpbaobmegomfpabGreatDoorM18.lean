/-
  Texts of the proof, one behind the other: BCopy2, BCopy3, BackKeep, AnsM.
-/
import Derived.Test.YtpbaobmegomfpabGreatDoorM8
import Derived.Test.YtpbaobmegomfpabGreatDoorM2
set_option linter.unusedVariables false
set_option linter.unusedSimpArgs false
set_option maxRecDepth 100000
open List renaming getElem_toArray → gTA, getElem_cons_zero → gCZ, getElem_cons_succ → gCS, setIfInBounds_toArray → sTA, set_cons_zero → sCZ, set_cons_succ → sCS
open Go.Lib renaming hid → jD
open Nat renaming le_refl → nL
namespace Go.Proofs.YtpbaobmegomfpabGreatDoor
open Go.RowKit
theorem sess_info : (Tryz.prog.info? 115).map (fun i => (i.zero, i.size, i.bytes)) = some (some (.agg #[.int .i64 0, .slice none 0 0, .slice none 0 0, .slice none 0 0, .slice none 0 0]), 5, 104) := by kernel_rfl
theorem make_sess (n : Nat) (h : n * 104 ≤ 140737488351232) (w : World) :
  (Instr.makeSlice 37 (.int .i64 (n : Int)) (.int .i64 (n : Int))).run Tryz.prog w = .ok (.slice (some ⟨w.heap.size, 0, none⟩) n n) (w.alloc (.cells (madeCells (Value.agg #[.int .i64 0, .slice none 0 0, .slice none 0 0, .slice none 0 0, .slice none 0 0]).cells (n * 5)) 115)) := by
 obtain ⟨i0, hi, hz0, hz1, hz2⟩ := info_parts sess_info
 have hr := run_make (P := Tryz.prog) w 37 115 i0 _ Tryz.underlying37 hi hz0 .i64 .i64 (n : Int) (n : Int) (by omega) (Int.le_refl _) (by rw [hz2]; omega) (by omega)
 rw [hz1] at hr
 simpa only [Int.toNat_natCast] using hr
structure OwnW (w : World) (base gR S : Nat) (G : Nat → Nat → Nat) (W : Wd) : Prop where
 rows : RowTo w gR 60 (W.rows.length * 2) (flat W.rows)
 sess : OwnS w base S W.ss.length G W.ss W.ss.length
 loR : base ≤ gR
 loS : base ≤ S
 neS : gR ≠ S
 neG : ∀ i j, i < W.ss.length → j < 4 → G i j ≠ gR
def CopyPost (w : World) (W : Wd) (e : Ending) (w' : World) : Prop :=
 ∃ gR S G, e = .returned (.agg #[sl gR W.rows.length, sl S W.ss.length]) ∧ OwnW w' w.heap.size gR S G W ∧ Below w.heap.size w w'
theorem cell_set5' {w : World} {b R i o : Nat} {u a0 a1 a2 a3 a4 : Value} (h : w.cell? ⟨b, i, none⟩ = some u) (hne : b ≠ R) :
  (((((w.setCell ⟨R, o, none⟩ a0).setCell ⟨R, o + 1, none⟩ a1).setCell ⟨R, o + 2, none⟩ a2).setCell ⟨R, o + 3, none⟩ a3).setCell ⟨R, o + 4, none⟩ a4).cell? ⟨b, i, none⟩ = some u :=
 (set5_cell (p := ⟨b, i, none⟩) hne).trans h
def CopyRel (w : World) (W : Wd) (r s : Value) (k : Nat) (wr : World) : Prop :=
 ∃ G, OwnS wr (w.heap.size + 1 + 1) (w.heap.size + 1 + 1) W.ss.length G W.ss k ∧ RowTo wr w.heap.size 39 2 [r, s] ∧ RowTo wr (w.heap.size + 1) 39 2 [] ∧ Below w.heap.size w wr
set_option maxHeartbeats 4000000 in
theorem copy_any (r s : Value) (W : Wd) (w : World) (hW : Wld w w.heap.size r s W) :
  Calls Tryz.prog 44 #[.agg #[r, s]] w (CopyPost w W) := by
 obtain ⟨hr, hs⟩ := hW
 obtain ⟨A, c, rfl, hc⟩ := hs.form
 obtain ⟨A', c', rfl, hc'⟩ := hr.form
 have hby := hs.bytes
 have hmk := make_sess W.ss.length hby
 have HS := jD hs
 have HR := jD hr
 clear hs hr
 go_enter Tryz.func44, Tryz.ntmps44
 go_wp2
 clear hmk
 go_loopw [13] (fun i wr => ∃ k : Nat, k ≤ W.ss.length ∧ i = .int .i64 k ∧ CopyRel w W (.slice A' W.rows.length c') (.slice A W.ss.length c) k wr) (fun i _ => W.ss.length - (intOf i).toNat)
 case atStart =>
  refine ⟨0, by omega, rfl, fun _ _ => 0, ⟨?_, fun i _ h => absurd h (by omega), fun i j _ h => absurd h (by omega), fun i j _ h => absurd h (by omega), fun i j h => absurd h (by omega), fun i j h => absurd h (by omega), fun i j i' j' h => absurd h (by omega)⟩, ?_, ?_, ?_⟩
  ·have := RowTo.new ((w.alloc (.cells #[.slice A' W.rows.length c', .slice A W.ss.length c] 39)).alloc (.cells #[.slice none 0 0, .slice none 0 0] 39)) (madeCells #[.int .i64 0, .slice none 0 0, .slice none 0 0, .slice none 0 0, .slice none 0 0] (W.ss.length * 5)) 115
   rw [madeCells_size] at this
   simpa using this
  ·exact ((RowTo.whole w #[.slice A' W.rows.length c', .slice A W.ss.length c] 39).alloc _).alloc _
  ·have := (RowTo.new (w.alloc (.cells #[.slice A' W.rows.length c', .slice A W.ss.length c] 39)) #[.slice none 0 0, .slice none 0 0] 39).alloc (.cells (madeCells #[.int .i64 0, .slice none 0 0, .slice none 0 0, .slice none 0 0, .slice none 0 0] (W.ss.length * 5)) 115)
   simpa using this
  ·repeat' (first | exact Below.refl _ _ | assumption | with_reducible refine below_drewN ?_ _ | with_reducible refine Below.drew ?_ | with_reducible refine Below.setCell ?_ ?_ _ | with_reducible refine Below.alloc ?_ ?_ _ | (simp; done) | (simp; omega))
 case round =>
  obtain ⟨k, hk, rfl, G, hown, hbox, hres, bel⟩ := hrel
  by_cases hlt : k < W.ss.length
  ·obtain ⟨b, off, v1, v2, v3, v4, rfl, hb, hses⟩ := HS.out.pt hlt
   generalize hsk : W.ss[k] = s at *
   have HK := jD hsk
   clear hsk
   obtain ⟨d0, d1, d2, d3, d4, l1, l2, l3, l4⟩ := hses.keep (w' := wr) hb (nL _) fun p hp => bel.cell hp
   obtain ⟨A1, c1, rfl, _⟩ := l1.form
   obtain ⟨A2, c2, rfl, _⟩ := l2.form
   obtain ⟨A3, c3, rfl, _⟩ := l3.form
   obtain ⟨A4, c4, rfl, _⟩ := l4.form
   have L1 := jD hses.l1
   have L2 := jD hses.l2
   have L3 := jD hses.l3
   have L4 := jD hses.l4
   have hwlt := hown.blk.lt
   have HO := jD hown
   have HX := jD hbox
   have HY := jD hres
   have HB := jD bel
   clear hown hbox hres bel hses l1 l2 l3 l4
   go_wp2
   clear d0 d1 d2 d3 d4
   have e0 := cell_neu wr #[.int .i64 s.st, (.slice A1 s.set.length c1), (.slice A2 s.prep.length c2), (.slice A3 s.sav.length c3), (.slice A4 s.wr.length c4)] 115 0 (by simp)
   have e1 := cell_neu wr #[.int .i64 s.st, (.slice A1 s.set.length c1), (.slice A2 s.prep.length c2), (.slice A3 s.sav.length c3), (.slice A4 s.wr.length c4)] 115 1 (by simp)
   have e2 := cell_neu wr #[.int .i64 s.st, (.slice A1 s.set.length c1), (.slice A2 s.prep.length c2), (.slice A3 s.sav.length c3), (.slice A4 s.wr.length c4)] 115 2 (by simp)
   have e3 := cell_neu wr #[.int .i64 s.st, (.slice A1 s.set.length c1), (.slice A2 s.prep.length c2), (.slice A3 s.sav.length c3), (.slice A4 s.wr.length c4)] 115 3 (by simp)
   have e4 := cell_neu wr #[.int .i64 s.st, (.slice A1 s.set.length c1), (.slice A2 s.prep.length c2), (.slice A3 s.sav.length c3), (.slice A4 s.wr.length c4)] 115 4 (by simp)
   simp only [gTA, gCZ, gCS] at e0 e1 e2 e3 e4
   have R0 := jD (HO.out.blk.alloc (.cells #[.int .i64 s.st, (.slice A1 s.set.length c1), (.slice A2 s.prep.length c2), (.slice A3 s.sav.length c3), (.slice A4 s.wr.length c4)] 115))
   have A0 := jD ((Below.refl wr.heap.size wr).alloc (nL _) (.cells #[.int .i64 s.st, (.slice A1 s.set.length c1), (.slice A2 s.prep.length c2), (.slice A3 s.sav.length c3), (.slice A4 s.wr.length c4)] 115))
   have B0 := jD (HB.out.alloc HB.out.size (.cells #[.int .i64 s.st, (.slice A1 s.set.length c1), (.slice A2 s.prep.length c2), (.slice A3 s.sav.length c3), (.slice A4 s.wr.length c4)] 115))
   have hz0 : wr.heap.size < (wr.alloc (.cells #[.int .i64 s.st, (.slice A1 s.set.length c1), (.slice A2 s.prep.length c2), (.slice A3 s.sav.length c3), (.slice A4 s.wr.length c4)] 115)).heap.size := by simp
   generalize wr.alloc (.cells #[.int .i64 s.st, (.slice A1 s.set.length c1), (.slice A2 s.prep.length c2), (.slice A3 s.sav.length c3), (.slice A4 s.wr.length c4)] 115) = W0 at *
   have kb := Below.refl W0.heap.size W0
   have kbw := B0.out
   have hz1 : w.heap.size + 1 + 1 < W0.heap.size := by omega
   have hne : wr.heap.size ≠ w.heap.size + 1 + 1 := by omega
   have dS0 := jD (show W0.drew.cell? ⟨wr.heap.size, 0, none⟩ = some (.int .i64 s.st) ∧ W0.drew.cell? ⟨wr.heap.size, 1, none⟩ = some (.slice A1 s.set.length c1) ∧ W0.drew.cell? ⟨wr.heap.size, 2, none⟩ = some (.slice A2 s.prep.length c2) ∧ W0.drew.cell? ⟨wr.heap.size, 3, none⟩ = some (.slice A3 s.sav.length c3) ∧ W0.drew.cell? ⟨wr.heap.size, 4, none⟩ = some (.slice A4 s.wr.length c4) from ⟨e0, e1, e2, e3, e4⟩)
   go_region_held3 (fun wx => wx.cell? ⟨wr.heap.size, 0, none⟩ = some (.int .i64 s.st) ∧ wx.cell? ⟨wr.heap.size, 1, none⟩ = some (.slice A1 s.set.length c1) ∧ wx.cell? ⟨wr.heap.size, 2, none⟩ = some (.slice A2 s.prep.length c2) ∧ wx.cell? ⟨wr.heap.size, 3, none⟩ = some (.slice A3 s.sav.length c3) ∧ wx.cell? ⟨wr.heap.size, 4, none⟩ = some (.slice A4 s.wr.length c4))
    (first
     | with_reducible exact ⟨e0, e1, e2, e3, e4⟩
     | with_reducible exact dS0.out
     | with_reducible exact ⟨cell_set5' ((kb.cell (p := ⟨wr.heap.size, 0, none⟩) hz0).trans e0) hne, cell_set5' ((kb.cell (p := ⟨wr.heap.size, 1, none⟩) hz0).trans e1) hne, cell_set5' ((kb.cell (p := ⟨wr.heap.size, 2, none⟩) hz0).trans e2) hne, cell_set5' ((kb.cell (p := ⟨wr.heap.size, 3, none⟩) hz0).trans e3) hne, cell_set5' ((kb.cell (p := ⟨wr.heap.size, 4, none⟩) hz0).trans e4) hne⟩
     | with_reducible exact ⟨(kb.cell (p := ⟨wr.heap.size, 0, none⟩) hz0).trans e0, (kb.cell (p := ⟨wr.heap.size, 1, none⟩) hz0).trans e1, (kb.cell (p := ⟨wr.heap.size, 2, none⟩) hz0).trans e2, (kb.cell (p := ⟨wr.heap.size, 3, none⟩) hz0).trans e3, (kb.cell (p := ⟨wr.heap.size, 4, none⟩) hz0).trans e4⟩)
    (first
     | (
      go_at_call_of 63 (Value.slice A1 s.set.length c1)
      (with_reducible refine (copyPairs_any (.slice A1 s.set.length c1) s.set _ ?_).mono ?_)
      case refine_1 => first | exact L1.out.step kbw | exact L1.out.step kbw.drew | exact L1.out.step (below_drewN kbw _)
      rintro e w3 ⟨g0, rfl, q0, r0, hy⟩
      have kb : Below W0.heap.size W0 w3 := by first | exact bel_add kb hy kb.size | exact bel_addN kb hy kb.size
      have kbw : Below w.heap.size w w3 := bel_add B0.out kb B0.out.size
      have q0 : W0.heap.size ≤ g0 := q0)
     | (
      go_at_call_of 63 (Value.slice A2 s.prep.length c2)
      (with_reducible refine (copyPairs_any (.slice A2 s.prep.length c2) s.prep _ ?_).mono ?_)
      case refine_1 => first | exact L2.out.step kbw | exact L2.out.step kbw.drew | exact L2.out.step (below_drewN kbw _)
      rintro e w3 ⟨g1, rfl, q1, r1, hy⟩
      have kb : Below W0.heap.size W0 w3 := by first | exact bel_add kb hy kb.size | exact bel_addN kb hy kb.size
      have kbw : Below w.heap.size w w3 := bel_add B0.out kb B0.out.size
      have q1 : g0 < g1 := Nat.lt_of_lt_of_le r0.lt q1
      have r0 := r0.below hy r0.lt)
     | (
      go_at_call_of 63 (Value.slice A3 s.sav.length c3)
      (with_reducible refine (copyPairs_any (.slice A3 s.sav.length c3) s.sav _ ?_).mono ?_)
      case refine_1 => first | exact L3.out.step kbw | exact L3.out.step kbw.drew | exact L3.out.step (below_drewN kbw _)
      rintro e w3 ⟨g2, rfl, q2, r2, hy⟩
      have kb : Below W0.heap.size W0 w3 := by first | exact bel_add kb hy kb.size | exact bel_addN kb hy kb.size
      have kbw : Below w.heap.size w w3 := bel_add B0.out kb B0.out.size
      have q2 : g1 < g2 := Nat.lt_of_lt_of_le r1.lt q2
      have r0 := r0.below hy r0.lt
      have r1 := r1.below hy r1.lt)
     | (
      go_at_call_of 63 (Value.slice A4 s.wr.length c4)
      (with_reducible refine (copyPairs_any (.slice A4 s.wr.length c4) s.wr _ ?_).mono ?_)
      case refine_1 => first | exact L4.out.step kbw | exact L4.out.step kbw.drew | exact L4.out.step (below_drewN kbw _)
      rintro e w3 ⟨g3, rfl, q3, r3, hy⟩
      have kb : Below W0.heap.size W0 w3 := by first | exact bel_add kb hy kb.size | exact bel_addN kb hy kb.size
      have kbw : Below w.heap.size w w3 := bel_add B0.out kb B0.out.size
      have q3 : g2 < g3 := Nat.lt_of_lt_of_le r2.lt q3
      have r0 := r0.below hy r0.lt
      have r1 := r1.below hy r1.lt
      have r2 := r2.below hy r2.lt
      have Rb := jD (R0.out.below kb hz1)
      obtain ⟨u0, f0⟩ := Rb.out.any (j := k * 5) (by omega)
      obtain ⟨u1, f1⟩ := Rb.out.any (j := k * 5 + 1) (by omega)
      obtain ⟨u2, f2⟩ := Rb.out.any (j := k * 5 + 2) (by omega)
      obtain ⟨u3, f3⟩ := Rb.out.any (j := k * 5 + 3) (by omega)
      obtain ⟨u4, f4⟩ := Rb.out.any (j := k * 5 + 4) (by omega)
      have y0 := Rb.out.frozen (k * 5)
      have y1 := Rb.out.frozen (k * 5 + 1)
      have y2 := Rb.out.frozen (k * 5 + 2)
      have y3 := Rb.out.frozen (k * 5 + 3)
      have y4 := Rb.out.frozen (k * 5 + 4)))
   go_wp2
   go_roundw
   case rel =>
    refine ⟨k + 1, by omega, by go_num, (fun i j => if i = k then pick4 g0 g1 g2 g3 j else G i j), ?_, ?_, ?_, ?_⟩
    ·have hk' := HK.out
     subst hk'
     exact HO.out.step hlt rfl (by omega) (A0.out.trans (kb.mono (by omega))) r0 r1 r2 r3 (by omega) q1 q2 q3
    ·have := (HX.out.below (A0.out.trans (kb.mono (by omega))) HX.out.lt)
     exact set5_other this (by omega)
    ·have := (HY.out.below (A0.out.trans (kb.mono (by omega))) HY.out.lt)
     exact set5_other this (by omega)
    ·exact set5_below kbw (by omega)
   case measure => simp [intOf]; omega
  ·obtain rfl : k = W.ss.length := by omega
   have x0 := hbox.cell (j := 0) (by simp)
   have x1 := hbox.cell (j := 1) (by simp)
   simp only [gCZ, gCS] at x0 x1
   have HO := jD hown
   have HY := jD hres
   have HB := jD bel
   have hwlt := hown.blk.lt
   clear hown hbox hres bel
   go_wp2_with fail
   refine (copyPairs_any _ W.rows _ (HR.out.step HB.out)).mono ?_
   rintro e w3 ⟨g, rfl, q, rr, hy⟩
   have Y3 := HY.out.below hy HY.out.lt
   obtain ⟨u0, f0⟩ := Y3.any (j := 0) (by omega)
   obtain ⟨u1, f1⟩ := Y3.any (j := 1) (by omega)
   have y0 := Y3.frozen 0
   have y1 := Y3.frozen 1
   have HR3 := jD rr
   have HY3 := jD Y3
   clear rr Y3
   go_wp2
   refine bodyPost_ret (v := .agg #[.slice (some ⟨g, 0, none⟩) W.rows.length W.rows.length, .slice (some ⟨w.heap.size + 1 + 1, 0, none⟩) W.ss.length W.ss.length]) (by simp [results, Tryz.results44, go_sem, f0, f1]) rfl ?_
   have O3 := HO.out.kept (nL _) hy
   have hne : w.heap.size + 1 ≠ g := by omega
   refine ⟨g, w.heap.size + 1 + 1, G, rfl, ⟨(HR3.out.other hne _).other hne _, ?_, by omega, by omega, by omega, fun i j hi hj => ?_⟩, ?_⟩
   ·have hS := O3.blk.lt
    have hw : ∀ p : Addr, p.block ≠ w.heap.size + 1 → ((w3.setCell ⟨w.heap.size + 1, 0, none⟩ (.slice (some ⟨g, 0, none⟩) W.rows.length W.rows.length)).setCell ⟨w.heap.size + 1, 1, none⟩ (.slice (some ⟨w.heap.size + 1 + 1, 0, none⟩) W.ss.length W.ss.length)).cell? p = w3.cell? p := fun p hp => by
     rw [World.cell?_setCell_other _ _ _ _ (fun e => hp (by rw [← e])), World.cell?_setCell_other _ _ _ _ (fun e => hp (by rw [← e]))]
    have hG : ∀ i j, i < W.ss.length → j < 4 → w.heap.size + 1 ≠ G i j := fun i j hi hj e => by have := HO.out.lo i j hi hj; omega
    refine ⟨(O3.blk.other (by simp) _).other (by simp) _, fun i hi hik => (hw _ (by simp)).trans (O3.st i hi hik), fun i j hi hik hj => (hw _ (by simp)).trans (O3.cs i j hi hik hj), fun i j hi hik hj => ((O3.ls i j hi hik hj).other (hG i j hik hj) _).other (hG i j hik hj) _, fun i j hi hj => by have := O3.lo i j hi hj; omega, O3.ne, O3.inj⟩
   ·have := (HO.out.ls i j hi hi hj).lt
    omega
   ·exact ((bel_add HB.out hy HB.out.size).setCell (by simp) _).setCell (by simp) _
theorem OwnW.wld {w : World} {base gR S : Nat} {G : Nat → Nat → Nat} {W : Wd} (h : OwnW w base gR S G W) {w0 : World} {r s : Value} {B0 : Nat} (h0 : Wld w0 B0 r s W) : Wld w w.heap.size (sl gR W.rows.length) (sl S W.ss.length) W := by
 refine ⟨h.rows.lst (nL _) h.rows.lt h0.rows.bytes h0.rows.sizes, ⟨⟨_, _, rfl, nL _⟩, h0.sess.bytes, fun hn => ⟨S, 0, W.ss.length, rfl, h.sess.blk.lt, fun i hi => ?_⟩⟩⟩
 obtain ⟨b, off, c, e, hb, hc⟩ := h0.sess.cells hn
 obtain ⟨v1, v2, v3, v4, hs⟩ := hc i hi
 have hc0 := h.sess.st i hi hi
 have hc1 := h.sess.cs i 0 hi hi (by omega)
 have hc2 := h.sess.cs i 1 hi hi (by omega)
 have hc3 := h.sess.cs i 2 hi hi (by omega)
 have hc4 := h.sess.cs i 3 hi hi (by omega)
 have l1 := h.sess.ls i 0 hi hi (by omega)
 have l2 := h.sess.ls i 1 hi hi (by omega)
 have l3 := h.sess.ls i 2 hi hi (by omega)
 have l4 := h.sess.ls i 3 hi hi (by omega)
 rw [Nat.zero_add]
 exact ⟨_, _, _, _, hc0, hc1, hc2, hc3, hc4, l1.lst (nL _) l1.lt hs.l1.bytes hs.l1.sizes, l2.lst (nL _) l2.lt hs.l2.bytes hs.l2.sizes, l3.lst (nL _) l3.lt hs.l3.bytes hs.l3.sizes, l4.lst (nL _) l4.lt hs.l4.bytes hs.l4.sizes⟩
theorem fnd_append (l m : PL) (k : ByteArray) : fndL (l ++ m) k = (fndL l k || fndL m k) := by
 induction l with
 | nil => simp [fndL, atL]
 | cons p l ih =>
  unfold fndL at ih ⊢
  rw [List.cons_append]
  cases e : eqB p.1 k
  ·rw [atL_no e, atL_no e]; exact ih
  ·rw [atL_yes e, atL_yes e]; simp
theorem fnd_flat (ss : List Sess) (k : ByteArray) : fndL (ss.flatMap (·.wr)) k = ss.any (fun s => fndL s.wr k) := by
 induction ss with
 | nil => simp [fndL, atL]
 | cons s ss ih => rw [List.flatMap_cons, fnd_append, ih]; simp
theorem fnd_all {W : Wd} (h : risingB W.rows = true) (k : ByteArray) : fndL (allL W) k = (fndL W.rows k || W.ss.any (fun s => fndL s.wr k)) := by
 unfold allL; rw [allF_fnd h, fnd_flat]
theorem any_get {ss : List Sess} {f : Sess → Bool} : ss.any f = true ↔ ∃ k, ∃ hk : k < ss.length, f ss[k] = true := by
 rw [List.any_eq_true]
 constructor
 ·rintro ⟨s, hs, h⟩
  obtain ⟨k, hk, rfl⟩ := List.getElem_of_mem hs
  exact ⟨k, hk, h⟩
 ·rintro ⟨k, hk, h⟩; exact ⟨_, List.getElem_mem hk, h⟩
theorem plusF_up {R : PL} (h : risingB R = true) : ∀ l : PL, risingB (plusF R l) = true := by
 intro l
 unfold plusF
 induction l generalizing R with
 | nil => exact h
 | cons p l ih => rw [List.foldl_cons]; exact ih (by rw [plus_ins h]; exact ins_rising h)
theorem plusF_fnd {R : PL} {k : ByteArray} (h : risingB R = true) : ∀ l : PL, fndL (plusF R l) k = (fndL R k || fndL l k) := by
 intro l
 unfold plusF
 induction l generalizing R with
 | nil => simp [fndL, atL]
 | cons p l ih =>
  rw [List.foldl_cons, ih (by rw [plus_ins h]; exact ins_rising h), plus_ins h, fnd_ins h]
  have : fndL (p :: l) k = (eqB p.1 k || fndL l k) := by
   unfold fndL
   cases e : eqB p.1 k
   ·rw [atL_no e]; simp
   ·rw [atL_yes e]; simp
  rw [this]
  cases eqB p.1 k <;> cases fndL R k <;> simp
theorem plusF_mem {q : ByteArray × ByteArray} : ∀ {l R : PL}, q ∈ plusF R l → q ∈ R ∨ q ∈ l
 | [], R, h => .inl h
 | p :: l, R, h => by
  unfold plusF at h
  rw [List.foldl_cons] at h
  rcases plusF_mem (l := l) (R := plusL R p.1 p.2) h with h | h
  ·rcases plusL_mem h with h | h
   ·exact .inr (by rw [h]; simp)
   ·exact .inl h
  ·exact .inr (by simp [h])
theorem pairsB_mk {l : PL} {most : Nat} {kind : Int} (h1 : risingB l = true) (h2 : l.length ≤ most) (h3 : ∀ p ∈ l, checkE kind p.1 p.2 = 0) : pairsB l most kind = true := by
 unfold pairsB
 rw [h1, decide_eq_true h2, Bool.and_true, Bool.and_true, List.all_eq_true]
 exact fun p hp => decide_eq_true (h3 p hp)
theorem pairsB_nil (most : Nat) (kind : Int) : pairsB [] most kind = true := pairsB_mk rfl (Nat.zero_le _) (fun _ h => by cases h)
theorem pairsB_plus {l : PL} {most : Nat} {kind : Int} {key val : ByteArray} (h : pairsB l most kind = true) (hc : checkE kind key val = 0) (hr : fndL l key = true ∨ l.length < most) : pairsB (plusL l key val) most kind = true := by
 obtain ⟨h1, h2, h3⟩ := pairsB_rising h
 rw [plus_ins h1]
 refine pairsB_mk (ins_rising h1) ?_ (fun p hp => ?_)
 ·rw [ins_length h1]
  rcases hr with hr | hr
  ·unfold fndL at hr; rw [if_pos hr]; exact h2
  ·split <;> omega
 ·rcases ins_mem hp with rfl | hp
  ·exact hc
  ·exact h3 p hp
theorem fnd_plus {l : PL} {k v k' : ByteArray} (h : risingB l = true) : fndL (plusL l k v) k' = (eqB k k' || fndL l k') := by rw [plus_ins h, fnd_ins h]
section
variable {W : Wd} {i : Nat} {s' : Sess}
theorem wput_len (W : Wd) (i : Nat) (s' : Sess) : (W.put i s').ss.length = W.ss.length := by unfold Wd.put; simp
theorem wput_get (hi : i < W.ss.length) {k : Nat} (hk : k < (W.put i s').ss.length) : (W.put i s').ss[k] = if i = k then s' else W.ss[k]'(by rw [wput_len] at hk; exact hk) := by
 simp only [Wd.put]
 rw [List.getElem_set]
theorem held_put (hi : i < W.ss.length) (hs : ∀ k, fndL s'.wr k = true → fndL W.ss[i].wr k = true) {me : Int} {key : ByteArray} (h : heldB W.ss me key = false) : heldB (W.put i s').ss me key = false := by
 refine heldB_no fun k hk hf => Classical.byContradiction fun hne => ?_
 rw [wput_get hi hk] at hf
 have hk' : k < W.ss.length := by rw [wput_len] at hk; exact hk
 have : (atL W.ss[k].wr key).isSome = true := by
  by_cases e : i = k
  ·subst e; rw [if_pos rfl] at hf; exact hs key hf
  ·rw [if_neg e] at hf; exact hf
 rw [heldB_yes hk' this hne] at h; cases h
theorem any_put (hi : i < W.ss.length) {key : ByteArray} (h : (W.put i s').ss.any (fun s => fndL s.wr key) = true) : fndL s'.wr key = true ∨ W.ss.any (fun s => fndL s.wr key) = true := by
 obtain ⟨k, hk, hf⟩ := any_get.1 h
 rw [wput_get hi hk] at hf
 have hk' : k < W.ss.length := by rw [wput_len] at hk; exact hk
 by_cases e : i = k
 ·rw [if_pos e] at hf; exact .inl hf
 ·rw [if_neg e] at hf; exact .inr (any_get.2 ⟨k, hk', hf⟩)
theorem all_len {W' : Wd} (h : WorldOk W) (hr : risingB W'.rows = true) (hf : ∀ k, fndL (allL W') k = true → fndL (allL W) k = true) : (allL W').length ≤ 100 :=
 Nat.le_trans (sub_len (all_rising h) (allF_rising hr _) (fun p hp => hf p.1 (fnd_of_mem hp))) h.all
theorem all_more {W' : Wd} (h : WorldOk W) (hr : risingB W'.rows = true) {key : ByteArray} (hn : ¬ (fndL (allL W) key = false ∧ 100 ≤ (allL W).length)) (hf : ∀ k, fndL (allL W') k = true → eqB key k = true ∨ fndL (allL W) k = true) : (allL W').length ≤ 100 := by
 have h1 := sub_len (R := insL (allL W) key ⟨#[]⟩) (ins_rising (all_rising h)) (allF_rising hr (W'.ss.flatMap (·.wr))) (fun p hp => by
  rw [fnd_ins (all_rising h)]
  rcases hf p.1 (fnd_of_mem hp) with h | h
  ·rw [h]; rfl
  ·rw [h]; simp)
 rw [ins_length (all_rising h)] at h1
 have h2 := h.all
 have h3 : (allL W').length = (allF W'.rows (W'.ss.flatMap (·.wr))).length := rfl
 cases e : fndL (allL W) key
 ·unfold fndL at e
  rw [e] at h1
  have h4 : ¬ 100 ≤ (allL W).length := fun hh => hn ⟨e, hh⟩
  simp at h1
  omega
 ·unfold fndL at e
  rw [e] at h1
  simp at h1
  omega
theorem wput_ok (h : WorldOk W) (hi : i < W.ss.length) (hs : SessOk s') (hw : ∀ p ∈ s'.wr, p ∈ W.ss[i].wr) : WorldOk (W.put i s') := by
 have hf : ∀ k, fndL s'.wr k = true → fndL W.ss[i].wr k = true := fun k hk => by
  obtain ⟨v, hv⟩ := Option.isSome_iff_exists.1 hk
  exact atL_of_mem (hw _ (atL_mem hv))
 refine ⟨h.rows, by rw [wput_len]; exact h.many, fun k hk => ?_, fun k hk p hp => ?_, ?_⟩
 ·rw [wput_get hi hk]
  split
  ·exact hs
  ·exact h.sess k _
 ·have hk' : k < W.ss.length := by rw [wput_len] at hk; exact hk
  rw [wput_get hi hk] at hp
  refine held_put hi hf (h.apart k hk' p ?_)
  by_cases e : i = k
  ·subst e; rw [if_pos rfl] at hp; exact hw p hp
  ·rw [if_neg e] at hp; exact hp
 ·have hr := (pairsB_rising h.rows).1
  refine all_len h hr fun k hk => ?_
  rw [fnd_all (W := W.put i s') hr] at hk
  rw [fnd_all hr]
  rw [Bool.or_eq_true] at hk ⊢
  rcases hk with hk | hk
  ·exact .inl hk
  ·right
   rcases any_put hi hk with h1 | h1
   ·exact any_get.2 ⟨i, hi, hf k h1⟩
   ·exact h1
theorem put_wr_ok (h : WorldOk W) (hi : i < W.ss.length) {key val : ByteArray} (hst : W.ss[i].st = 1) (hc : checkE 10 key val = 0) (hh : heldB W.ss i key = false) (hn : ¬ (fndL (allL W) key = false ∧ 100 ≤ (allL W).length)) :
  WorldOk (W.put i { W.ss[i] with wr := plusL W.ss[i].wr key val }) := by
 have hs := h.sess i hi
 have hrw := (pairsB_rising hs.wr).1
 have hr := (pairsB_rising h.rows).1
 refine ⟨h.rows, by rw [wput_len]; exact h.many, fun k hk => ?_, fun k hk p hp => ?_, ?_⟩
 ·rw [wput_get hi hk]
  split
  ·exact ⟨hs.lo, hs.hi, hs.set, hs.prep, hs.sav, pairsB_plus hs.wr hc (room_wr h hi hn), hs.idle, fun hne => absurd hst hne⟩
  ·exact h.sess k _
 ·have hk' : k < W.ss.length := by rw [wput_len] at hk; exact hk
  rw [wput_get hi hk] at hp
  refine heldB_no fun m hm hf => Classical.byContradiction fun hne => ?_
  have hm' : m < W.ss.length := by rw [wput_len] at hm; exact hm
  rw [wput_get hi hm] at hf
  by_cases e : i = k
  ·subst e
   rw [if_pos rfl] at hp
   rw [if_neg (by omega)] at hf
   rw [plus_ins hrw] at hp
   rcases ins_mem hp with rfl | hp
   ·rw [heldB_yes hm' hf hne] at hh; cases hh
   ·have := h.apart i hi p hp
    rw [heldB_yes hm' hf hne] at this; cases this
  ·rw [if_neg e] at hp
   have hap := h.apart k hk' p hp
   by_cases e2 : i = m
   ·subst e2
    rw [if_pos rfl] at hf
    have hf : fndL (plusL W.ss[i].wr key val) p.1 = true := hf
    rw [fnd_plus hrw, Bool.or_eq_true] at hf
    rcases hf with hf | hf
    ·rw [eqB_iff.1 hf, heldB_yes hk' (atL_of_mem hp) (by omega)] at hh; cases hh
    ·rw [heldB_yes hi hf hne] at hap; cases hap
   ·rw [if_neg e2] at hf
    rw [heldB_yes hm' hf hne] at hap; cases hap
 ·refine all_more h hr hn fun k hk => ?_
  rw [fnd_all (W := W.put i _) hr, Bool.or_eq_true] at hk
  rw [fnd_all hr, Bool.or_eq_true]
  rcases hk with hk | hk
  ·exact .inr (.inl hk)
  ·rcases any_put hi hk with h1 | h1
   ·have h1 : fndL (plusL W.ss[i].wr key val) k = true := h1
    rw [fnd_plus hrw, Bool.or_eq_true] at h1
    rcases h1 with h1 | h1
    ·exact .inl h1
    ·exact .inr (.inr (any_get.2 ⟨i, hi, h1⟩))
   ·exact .inr (.inr h1)
theorem put_row_ok (h : WorldOk W) {key val : ByteArray} (hc : checkE 10 key val = 0) (hn : ¬ (fndL (allL W) key = false ∧ 100 ≤ (allL W).length)) : WorldOk ⟨plusL W.rows key val, W.ss⟩ := by
 have hr := (pairsB_rising h.rows).1
 have hp := pairsB_plus h.rows hc (room_rows h hn)
 have hr' := (pairsB_rising hp).1
 refine ⟨hp, h.many, h.sess, h.apart, all_more h hr' hn fun k hk => ?_⟩
 rw [fnd_all (W := ⟨plusL W.rows key val, W.ss⟩) hr', Bool.or_eq_true] at hk
 rw [fnd_all hr, Bool.or_eq_true]
 rcases hk with hk | hk
 ·have hk : fndL (plusL W.rows key val) k = true := hk
  rw [fnd_plus hr, Bool.or_eq_true] at hk
  rcases hk with hk | hk
  ·exact .inl hk
  ·exact .inr (.inl hk)
 ·exact .inr (.inr hk)
theorem commit_ok (h : WorldOk W) (hi : i < W.ss.length) : WorldOk ⟨plusF W.rows W.ss[i].wr, W.ss.set i { W.ss[i] with st := 0, sav := [], wr := [] }⟩ := by
 have hs := h.sess i hi
 have hr := (pairsB_rising h.rows).1
 have hr' := plusF_up hr W.ss[i].wr
 have hq := wput_ok (s' := { W.ss[i] with st := 0, sav := [], wr := [] }) h hi ⟨Int.le_refl _, (by show (0 : Int) ≤ 2; decide), hs.set, hs.prep, pairsB_nil _ _, pairsB_nil _ _, fun _ => rfl, fun _ => rfl⟩ (fun p hp => by cases hp)
 have hall : ∀ k, fndL (allL ⟨plusF W.rows W.ss[i].wr, W.ss.set i { W.ss[i] with st := 0, sav := [], wr := [] }⟩) k = true → fndL (allL W) k = true := fun k hk => by
  rw [fnd_all (W := ⟨plusF W.rows W.ss[i].wr, _⟩) hr', Bool.or_eq_true] at hk
  rw [fnd_all hr, Bool.or_eq_true]
  rcases hk with hk | hk
  ·have hk : fndL (plusF W.rows W.ss[i].wr) k = true := hk
   rw [plusF_fnd hr, Bool.or_eq_true] at hk
   rcases hk with hk | hk
   ·exact .inl hk
   ·exact .inr (any_get.2 ⟨i, hi, hk⟩)
  ·right
   rcases any_put (W := W) (s' := { W.ss[i] with st := 0, sav := [], wr := [] }) hi hk with h1 | h1
   ·cases h1
   ·exact h1
 refine ⟨pairsB_mk hr' ?_ (fun p hp => ?_), hq.many, hq.sess, hq.apart, all_len h hr' hall⟩
 ·have := sub_len (all_rising h) hr' (fun p hp => by
   have hf := fnd_of_mem hp
   rw [plusF_fnd hr, Bool.or_eq_true] at hf
   rw [fnd_all hr, Bool.or_eq_true]
   rcases hf with hf | hf
   ·exact .inl hf
   ·exact .inr (any_get.2 ⟨i, hi, hf⟩))
  have := h.all
  show (plusF W.rows W.ss[i].wr).length ≤ 100
  omega
 ·rcases plusF_mem hp with hp | hp
  ·exact (pairsB_rising h.rows).2.2 p hp
  ·exact (pairsB_rising hs.wr).2.2 p hp
def Fine (W : Wd) (r : Wd × Ans) : Prop := WorldOk r.1 ∧ r.1.ss.length = W.ss.length
theorem fine_ite {c : Prop} [Decidable c] {a b : Wd × Ans} (ha : c → Fine W a) (hb : ¬ c → Fine W b) : Fine W (if c then a else b) := by
 by_cases h : c
 ·rw [if_pos h]; exact ha h
 ·rw [if_neg h]; exact hb h
theorem did1_ok (h : WorldOk W) (hi : i < W.ss.length) {k : Int} {key val : ByteArray} (hc : checkE k key val = 0) : Fine W (did1 W i k key val) := by
 have hs := h.sess i hi
 have e : W.at i = W.ss[i] := by unfold Wd.at; rw [List.getD_eq_getElem?_getD, List.getElem?_eq_getElem hi]; rfl
 have same : ∀ a, Fine W (W, a) := fun a => ⟨h, rfl⟩
 unfold did1
 simp only
 rw [e]
 refine fine_ite (fun _ => same _) (fun hfail => ?_)
 refine fine_ite (fun _ => fine_ite (fun _ => ?_) (fun _ => same _)) (fun _ => ?_)
 ·exact ⟨wput_ok h hi ⟨(by show (0 : Int) ≤ 1; decide), (by show (1 : Int) ≤ 2; decide), hs.set, hs.prep, hs.set, hs.wr, (fun hh => absurd hh (by show ¬ (1 : Int) = 0; decide)), fun hh => absurd rfl hh⟩ (fun p hp => hp), wput_len _ _ _⟩
 refine fine_ite (fun _ => fine_ite (fun _ => same _) (fun _ => fine_ite (fun _ => ?_) (fun _ => ?_))) (fun _ => ?_)
 ·exact ⟨commit_ok h hi, by simp⟩
 ·exact ⟨wput_ok h hi ⟨Int.le_refl _, (by show (0 : Int) ≤ 2; decide), hs.sav, hs.prep, pairsB_nil _ _, pairsB_nil _ _, fun _ => rfl, fun _ => rfl⟩ (fun p hp => by cases hp), wput_len _ _ _⟩
 refine fine_ite (fun _ => fine_ite (fun _ => ?_) (fun _ => same _)) (fun _ => ?_)
 ·exact ⟨wput_ok h hi ⟨hs.lo, hs.hi, pairsB_nil _ _, pairsB_nil _ _, hs.sav, hs.wr, hs.idle, hs.tx⟩ (fun p hp => hp), wput_len _ _ _⟩
 refine fine_ite (fun _ => same _) (fun _ => fine_ite (fun _ => same _) (fun _ => ?_))
 refine fine_ite (fun h9 => fine_ite (fun _ => same _) (fun hn => ?_)) (fun _ => ?_)
 ·subst h9
  refine ⟨wput_ok h hi ⟨hs.lo, hs.hi, pairsB_plus hs.set hc ?_, hs.prep, hs.sav, hs.wr, hs.idle, hs.tx⟩ (fun p hp => hp), wput_len _ _ _⟩
  cases e : fndL W.ss[i].set key
  ·exact .inr (Nat.lt_of_not_le fun hh => hn ⟨e, hh⟩)
  ·exact .inl rfl
 refine fine_ite (fun h10 => fine_ite (fun _ => same _) (fun hh => fine_ite (fun _ => same _) (fun hn => fine_ite (fun h1 => ?_) (fun _ => ?_)))) (fun _ => ?_)
 ·subst h10
  exact ⟨put_wr_ok h hi h1 hc (by simpa using hh) hn, wput_len _ _ _⟩
 ·subst h10
  exact ⟨put_row_ok h hc hn, rfl⟩
 refine fine_ite (fun h11 => fine_ite (fun _ => same _) (fun hn => ?_)) (fun _ => same _)
 subst h11
 refine ⟨wput_ok h hi ⟨hs.lo, hs.hi, hs.set, pairsB_plus hs.prep hc ?_, hs.sav, hs.wr, hs.idle, hs.tx⟩ (fun p hp => hp), wput_len _ _ _⟩
 cases e : fndL W.ss[i].prep key
 ·exact .inr (Nat.lt_of_not_le fun hh => hn ⟨e, hh⟩)
 ·exact .inl rfl
theorem prep_stmt {l : PL} (h : pairsB l 6 11 = true) {key t : ByteArray} (ha : atL l key = some t) : readE t = 0 ∧ checkE (kindN (cutA t)) (cutA (cutB t)) (cutB (cutB t)) = 0 ∧ (kindN (cutA t) = 6 ∨ kindN (cutA t) = 7 ∨ kindN (cutA t) = 10) := by
 have hc := (pairsB_rising h).2.2 _ (atL_mem ha)
 have hv : prepB t = true := by
  unfold checkE at hc
  rw [if_neg (by decide)] at hc
  split at hc
  ·rename_i hh
   rw [Bool.and_eq_true] at hh
   have := hh.2
   unfold valueB at this
   rwa [if_pos rfl] at this
  ·cases hc
 rw [prepB_read, Bool.and_eq_true, decide_eq_true_eq, decide_eq_true_eq] at hv
 exact ⟨hv.1, (text_read hv.1).1, hv.2⟩
theorem didM_ok (h : WorldOk W) (hi : i < W.ss.length) {k : Int} {key val : ByteArray} (hc : checkE k key val = 0) : Fine W (didM W i k key val) := by
 have hs := h.sess i hi
 have e : W.at i = W.ss[i] := by unfold Wd.at; rw [List.getD_eq_getElem?_getD, List.getElem?_eq_getElem hi]; rfl
 unfold didM
 simp only [e]
 split
 ·split
  ·exact ⟨h, rfl⟩
  split
  ·exact ⟨h, rfl⟩
  ·rename_i t ht
   exact did1_ok h hi (prep_stmt hs.prep ht).2.1
 ·exact did1_ok h hi hc
theorem doM_ok (h : WorldOk W) (hi : i < W.ss.length) {k : Int} {key val : ByteArray} (hc : checkE k key val = 0) : Fine W (doM W i k key val) := by
 obtain ⟨h1, h2⟩ := didM_ok h hi hc
 unfold doM
 simp only
 split
 ·have hi' : i < (didM W i k key val).1.ss.length := by omega
  have e : (didM W i k key val).1.at i = (didM W i k key val).1.ss[i] := by unfold Wd.at; rw [List.getD_eq_getElem?_getD, List.getElem?_eq_getElem hi']; rfl
  have hs := h1.sess i hi'
  rw [e]
  exact ⟨wput_ok h1 hi' ⟨(by show (0 : Int) ≤ 2; decide), (by show (2 : Int) ≤ 2; decide), hs.set, hs.prep, hs.sav, pairsB_nil _ _, (fun hh => absurd hh (by show ¬ (2 : Int) = 0; decide)), fun _ => rfl⟩ (fun p hp => by cases hp), by rw [wput_len]; exact h2⟩
 ·exact ⟨h1, h2⟩
end
structure AnsOk (a : Ans) : Prop where
 lo : 1 ≤ a.kind
 hi : a.kind ≤ 4
 len : a.text.size ≤ 60
 ne : (decide (a.kind = 2 ∨ a.kind = 4) == a.text.toList.isEmpty) = false
theorem no_ok {t : ByteArray} (h : t.size ≤ 60) (h1 : 1 ≤ t.size) : AnsOk (no' t) := ⟨(by show (1 : Int) ≤ 4; decide), Int.le_refl _, h, by rw [show (no' t).text = t from rfl, full_of h1]; show (decide ((4 : Int) = 2 ∨ (4 : Int) = 4) == false) = false; decide⟩
theorem ok_ok : AnsOk ok' := ⟨Int.le_refl _, (by show (1 : Int) ≤ 4; decide), (by show 0 ≤ 60; decide), by rw [empty_of (s := ok'.text) rfl]; decide⟩
theorem fnd_ok {o : Option ByteArray} (h : ∀ v, o = some v → 1 ≤ v.size ∧ v.size ≤ 60) : AnsOk (fnd' o) := by
 cases o with
 | none => exact ⟨(by show (1 : Int) ≤ 3; decide), (by show (3 : Int) ≤ 4; decide), (by show 0 ≤ 60; decide), by rw [empty_of (s := (fnd' none).text) rfl]; decide⟩
 | some v => exact ⟨(by show (1 : Int) ≤ 2; decide), (by show (2 : Int) ≤ 4; decide), (h v rfl).2, by rw [show (fnd' (some v)).text = v from rfl, full_of (h v rfl).1]; show (decide ((2 : Int) = 2 ∨ (2 : Int) = 4) == false) = false; decide⟩
theorem val_ok {l : PL} {most : Nat} {kind : Int} (hk : 9 ≤ kind) (h : pairsB l most kind = true) {key v : ByteArray} (ha : atL l key = some v) : 1 ≤ v.size ∧ v.size ≤ 60 := by
 have g := good_of ((pairsB_rising h).2.2 _ (atL_mem ha))
 refine ⟨?_, g.v60⟩
 have this : v.toList.isEmpty = decide (kind < 9) := g.vE
 rw [decide_eq_false (by omega)] at this
 rcases Nat.lt_or_ge 0 v.size with h' | h'
 ·exact h'
 ·rw [empty_of (by omega)] at this; cases this
section
variable {W : Wd} {i : Nat}
theorem ans_ite {c : Prop} [Decidable c] {a b : Wd × Ans} (ha : AnsOk a.2) (hb : AnsOk b.2) : AnsOk (if c then a else b).2 := by
 split
 ·exact ha
 ·exact hb
theorem did1_ans (h : WorldOk W) (hi : i < W.ss.length) (k : Int) (key val : ByteArray) : AnsOk (did1 W i k key val).2 := by
 have hs := h.sess i hi
 have e : W.at i = W.ss[i] := by unfold Wd.at; rw [List.getD_eq_getElem?_getD, List.getElem?_eq_getElem hi]; rfl
 unfold did1
 simp only
 rw [e]
 repeat' first
  | exact no_ok (by decide) (by decide)
  | exact ok_ok
  | refine ans_ite ?_ ?_
 ·exact fnd_ok fun v hv => val_ok (by decide) hs.set hv
 ·refine fnd_ok fun v hv => ?_
  cases ha : atL W.ss[i].wr key with
  | none => rw [ha] at hv; exact val_ok (by decide) h.rows hv
  | some u => rw [ha] at hv; injection hv with hv; subst hv; exact val_ok (by decide) hs.wr ha
theorem didM_ans (h : WorldOk W) (hi : i < W.ss.length) (k : Int) (key val : ByteArray) : AnsOk (didM W i k key val).2 := by
 unfold didM
 refine ans_ite (ans_ite (no_ok (by decide) (by decide)) ?_) (did1_ans h hi _ _ _)
 split
 ·exact no_ok (by decide) (by decide)
 ·exact did1_ans h hi _ _ _
theorem doM_ans (h : WorldOk W) (hi : i < W.ss.length) (k : Int) (key val : ByteArray) : AnsOk (doM W i k key val).2 := by
 unfold doM
 simp only
 exact ans_ite (didM_ans h hi _ _ _) (didM_ans h hi _ _ _)
end
end Go.Proofs.YtpbaobmegomfpabGreatDoor
