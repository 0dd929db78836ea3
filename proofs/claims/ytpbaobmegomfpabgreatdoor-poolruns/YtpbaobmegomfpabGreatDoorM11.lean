/-
  Texts of the proof, one behind the other: BPutE, BPutF, BEnd.
-/
import Derived.Test.YtpbaobmegomfpabGreatDoorM9
import Derived.Test.YtpbaobmegomfpabGreatDoorM10
import Derived.Test.YtpbaobmegomfpabGreatDoorM8
set_option linter.unusedVariables false
set_option linter.unusedSimpArgs false
set_option maxRecDepth 100000
open List renaming getElem_toArray → gTA, getElem_cons_zero → gCZ, getElem_cons_succ → gCS, setIfInBounds_toArray → sTA, set_cons_zero → sCZ, set_cons_succ → sCS
open Go.Lib renaming hid → jD
open Nat renaming le_refl → nL
namespace Go.Proofs.YtpbaobmegomfpabGreatDoor
open Go.RowKit Go.Maps Go.WideMaps
set_option maxHeartbeats 4000000 in
theorem put_row_is (base X S gR cR : Nat) (G C : Nat → Nat → Nat) (W : Wd) (i : Nat) (key val : ByteArray) (w : World) (h : OwnD w X S gR cR G C W) (lo : LoD base X S gR G W.ss.length) (hw : WorldOk W) (hb : base ≤ w.heap.size) (hi : i < W.ss.length) (hkz : key.size ≤ 8) (hvz : val.size ≤ 60) (hown : fndL W.ss[i].wr key = false) (hc0 : cntL (W.ss.flatMap (·.wr)) key = 0) (hfn : fndL (allL W) key = true) (hst : W.ss[i].st ≠ 1) :
  Calls Tryz.prog 71 #[.pointer (some ⟨X, 0, none⟩), .int .i64 i, .agg #[.int .i64 10, .string key, .string val]] w (DonePost w base X S gR G W.ss.length ⟨insL W.rows key val, W.ss⟩) := by
 have HOWN := jD hown
 have HROOM := jD (room_rows hw (key := key) (fun hh => by rw [hfn] at hh; cases hh.1))
 have HRR := jD ((pairsB_rising hw.rows).1)
 clear hown
 have hz := worldOk_sz hw
 have hXw := h.box.lt
 have hSw := h.blk.lt
 have hpr := pairsB_rising hw.rows
 have HCW := jD (fun (w9 : World) (h9 : Wld w9 w9.heap.size (slc gR W.rows.length cR) (slc S W.ss.length W.ss.length) W) => countWriters_any _ _ W w9 h9 hpr.2.1 hpr.1 hw.many (fun j hj => (pairsB_rising (hw.sess j hj).wr).2.1))
 have HWR := jD ((pairsB_rising (hw.sess i hi).wr).1)
 have b0 : Below w.heap.size w ((w.alloc (.cells #[.int .i64 10, .string key, .string val] 41)).alloc (.cells #[.int .i64 0, .string ⟨#[]⟩, .int .i64 0] 46)) := ((Below.refl _ _).alloc (nL _) _).alloc (by simp) _
 have h0 := h.kept b0
 have x0 := h.box.cell (j := 0) (by simp)
 have x1 := h.box.cell (j := 1) (by simp)
 simp only [gCZ, gCS] at x0 x1
 unfold slc at x0 x1
 have X0 : RowTo ((w.alloc (.cells #[.int .i64 10, .string key, .string val] 41)).alloc (.cells #[.int .i64 0, .string ⟨#[]⟩, .int .i64 0] 46)) (w.heap.size + 1) 46 3 [.int .i64 0, .string ⟨#[]⟩, .int .i64 0] := by
  have := RowTo.whole (w.alloc (.cells #[.int .i64 10, .string key, .string val] 41)) #[.int .i64 0, .string ⟨#[]⟩, .int .i64 0] 46
  simpa using this
 have Y0 : RowTo ((w.alloc (.cells #[.int .i64 10, .string key, .string val] 41)).alloc (.cells #[.int .i64 0, .string ⟨#[]⟩, .int .i64 0] 46)) w.heap.size 41 3 [.int .i64 10, .string key, .string val] := (RowTo.whole w #[.int .i64 10, .string key, .string val] 41).alloc _
 have hzs : ((w.alloc (.cells #[.int .i64 10, .string key, .string val] 41)).alloc (.cells #[.int .i64 0, .string ⟨#[]⟩, .int .i64 0] 46)).heap.size = w.heap.size + 1 + 1 := by simp
 have hkey := klKey (s := key) (by omega)
 have hii : (i : Int) < (W.ss.length : Int) := by omega
 have H := jD h
 have H0 := jD h0
 have HZ := jD hz
 have HW := jD hw
 have B0 := jD b0
 have HX0 := jD X0
 have HY0 := jD Y0
 have HZS := jD hzs
 clear h h0 hz hw b0 X0 Y0 hzs hpr
 go_enter Tryz.func71, Tryz.ntmps71
 go_wp2_with fail
 refine (HCW.out _ (H0.out.wld HZ.out)).mono ?_
 rintro e w1 ⟨bm, n, M, rfl, hown, hmap, hn, hbm, hb1⟩
 have hs1 := hb1.size
 have H1 := jD (H0.out.kept hb1)
 have B1 := jD (bel_add' B0.out hb1 B0.out.size)
 have X1 := jD (HX0.out.below hb1 HX0.out.lt)
 have Y1 := HY0.out.below hb1 HY0.out.lt
 have q1 := Y1.cell (j := 1) (by simp)
 simp only [gCZ, gCS] at q1
 have HY1 := jD Y1
 have HO := jD hown
 have HM := jD hmap
 have HAT := jD (hmap.at_ key)
 have hhas : Maps.has M (kl key) = fndL (allL W) key := hmap.has key
 have hsize : Maps.size M = (allL W).length := hmap.size
 rw [HZS.out] at hs1
 have hbm' : w.heap.size + 1 + 1 ≤ bm := by rw [HZS.out] at hbm; exact hbm
 clear hown hmap hb1 Y1 x0 x1 hbm
 have g1 : decide ((0 : Int) < (cntL (W.ss.flatMap (·.wr)) key : Int)) = false := decide_eq_false (by omega)
 have g2 : decide (0 < cntL (W.ss.flatMap (·.wr)) key) = false := decide_eq_false (by omega)
 rw [hfn] at hhas
 go_wp2_with (first
  | (at_lookup; refine wpList_lookup_own_ok_int _ rfl _ _ 162 rfl 9 3 .i64 strLaw Tryz.underlying162 Tryz.underlying3 (zeroInt _) bm n _ rfl HO.out _ _ rfl hkey ?_; intro q hat hwq; obtain rfl : q = (cntL (W.ss.flatMap (·.wr)) key : Int) := (lit_inj (HAT.out.symm.trans hat)).symm; clear hat hwq)
  | go_in)
 have q4 : w1.cell? ⟨S, i * 5 + 4, none⟩ = some (.slice (some ⟨G i 3, 0, none⟩) W.ss[i].wr.length (C i 3)) := H1.out.cs i 3 hi (by omega)
 have hl4 := jD (show Lst w1 w1.heap.size (.slice (some ⟨G i 3, 0, none⟩) W.ss[i].wr.length (C i 3)) W.ss[i].wr from H1.out.list HZ.out hi (j := 3) (by omega))
 have hz0 : w.heap.size < w1.heap.size := by omega
 have hz1 : S < w1.heap.size := H1.out.blk.lt
 have kb := Below.refl w1.heap.size w1
 have dS := jD (show w1.drew.cell? ⟨S, i * 5 + 4, none⟩ = some (.slice (some ⟨G i 3, 0, none⟩) W.ss[i].wr.length (C i 3)) ∧ w1.drew.cell? ⟨w.heap.size, 1, none⟩ = some (.string key) from ⟨q4, q1⟩)
 go_region_held3 (fun wx => wx.cell? ⟨S, i * 5 + 4, none⟩ = some (.slice (some ⟨G i 3, 0, none⟩) W.ss[i].wr.length (C i 3)) ∧ wx.cell? ⟨w.heap.size, 1, none⟩ = some (.string key))
  (first
   | with_reducible exact ⟨q4, q1⟩
   | with_reducible exact dS.out
   | with_reducible exact ⟨(kb.cell (p := ⟨S, i * 5 + 4, none⟩) hz1).trans q4, (kb.cell (p := ⟨w.heap.size, 1, none⟩) hz0).trans q1⟩)
  (first
   | (
    go_at_call 95
    refine (place_any _ W.ss[i].wr key _ (by first | exact hl4.out | exact (hl4.out.step ((Below.refl _ _).drew)) | exact (hl4.out.step (below_drewN (Below.refl _ _) _))) HWR.out).mono ?_
    rw [HOWN.out]
    rintro e w8 ⟨rfl, hy⟩
    have kb : Below w1.heap.size w1 w8 := by first | exact kb.trans (hy.mono kb.size) | exact kb.trans ⟨hy.os, hy.tape, hy.output, hy.size, fun i hi => hy.block i (Nat.lt_of_lt_of_le hi kb.size)⟩))
 have hs8 := kb.size
 have H8 := jD (H1.out.kept kb)
 have B8 := jD (bel_add' B1.out kb B1.out.size)
 have X8 := jD (X1.out.below kb X1.out.lt)
 have Y8 := jD (HY1.out.below kb HY1.out.lt)
 have O8 := jD (HO.out.kept (grown_of_below kb none) (by simp))
 clear kb q1 q4 dS
 have c0 := H8.out.st i hi
 have e9 : (W.ss[i].st == 1) = false := beq_eq_false_iff_ne.2 hst
 have pc : w8.cell? ⟨X, 0, none⟩ = some (.slice (some ⟨gR, 0, none⟩) W.rows.length cR) := by have := H8.out.box.cell (j := 0) (by simp); simpa [slc] using this
 have pf := H8.out.box.frozen 0
 have hneg : X ≠ gR := Ne.symm H8.out.neRX
 have hgw : gR < w.heap.size := H.out.rows.row.lt
 have hpw : X < w.heap.size := hXw
 have HSTORE := jD (fun (w9 : World) (ho9 : OwnL w9 gR cR W.rows) (hp9 : w9.cell? ⟨X, 0, none⟩ = some (.slice (some ⟨gR, 0, none⟩) W.rows.length cR)) (hf9 : w9.frozen? ⟨X, 0, none⟩ = false) => store_ok gR cR X 0 W.rows 10 key val 100 w9 ho9 HRR.out (by have := HZ.out.rows.1; omega) (HZ.out.rows.sz) hp9 hf9 hneg (by omega) (by omega) HROOM.out)
 have O9 := jD (show OwnL w8 gR cR W.rows from H8.out.rows)
 have PC := jD (And.intro pc pf)
 have hw8 : w.heap.size < w8.heap.size := by omega
 have hR8 : w.heap.size + 1 < w8.heap.size := by omega
 have y0 := Y8.out.cell (j := 0) (by simp)
 have y1 := Y8.out.cell (j := 1) (by simp)
 have y2 := Y8.out.cell (j := 2) (by simp)
 simp only [gCZ, gCS] at y0 y1 y2
 clear pc pf
 go_wp2
 have dS := jD (show w8.drew.cell? ⟨w.heap.size, 0, none⟩ = some (.int .i64 10) ∧ w8.drew.cell? ⟨w.heap.size, 1, none⟩ = some (.string key) ∧ w8.drew.cell? ⟨w.heap.size, 2, none⟩ = some (.string val) from ⟨y0, y1, y2⟩)
 have hne1 : w.heap.size ≠ gR := by omega
 have hne2 : w.heap.size ≠ X := by omega
 have hne3 : w.heap.size + 1 ≠ gR := by omega
 have hne4 : w.heap.size + 1 ≠ X := by omega
 go_region_held3 (fun wx => wx.cell? ⟨w.heap.size, 0, none⟩ = some (.int .i64 10) ∧ wx.cell? ⟨w.heap.size, 1, none⟩ = some (.string key) ∧ wx.cell? ⟨w.heap.size, 2, none⟩ = some (.string val))
  (first
   | with_reducible exact ⟨y0, y1, y2⟩
   | with_reducible exact dS.out
   | with_reducible exact ⟨cell_set3' z0 (by omega), cell_set3' z1 (by omega), cell_set3' z2 (by omega)⟩
   | with_reducible exact ⟨z0, z1, z2⟩)
  (first
   | (
    go_at_call 70
    refine (HSTORE.out _ (by first | exact O9.out | exact O9.out.same rfl) (by first | exact PC.out.1 | assumption) (by first | exact PC.out.2 | assumption)).mono ?_
    rintro e wB ⟨g', c', rfl, ho', hl', hc⟩
    have hcB : Chg w8 wB gR X 0 (.slice (some ⟨g', 0, none⟩) (insL W.rows key val).length c') := ⟨hc.os, hc.tape, hc.output, hc.size, hc.other, hc.here⟩
    have hlB : g' = gR ∨ w8.heap.size ≤ g' := hl'
    have z0 := (World.cell?_of_block (a := ⟨w.heap.size, 0, none⟩) (hcB.other _ hw8 hne1 hne2)).trans y0
    have z1 := (World.cell?_of_block (a := ⟨w.heap.size, 1, none⟩) (hcB.other _ hw8 hne1 hne2)).trans y1
    have z2 := (World.cell?_of_block (a := ⟨w.heap.size, 2, none⟩) (hcB.other _ hw8 hne1 hne2)).trans y2
    have RB := X8.out.same (hcB.other _ hR8 hne3 hne4)
    have r0 := RB.cell (j := 0) (by simp)
    have r1 := RB.cell (j := 1) (by simp)
    have r2 := RB.cell (j := 2) (by simp)
    have s0 := RB.frozen 0
    have s1 := RB.frozen 1
    have s2 := RB.frozen 2
    simp only [gCZ, gCS] at r0 r1 r2
    unfold ansV))
 have HZ8 := jD (And.intro ho' (And.intro hlB hcB))
 clear ho' hlB hcB hl' hc RB z0 z1 z2
 go_wp2
 refine bodyPost_ret (v := .agg #[.int .i64 1, .string ⟨#[]⟩, .int .i64 0]) (by simp [results, Tryz.results71, go_sem, r0, r1, r2]) rfl ?_
 obtain ⟨a1, a2, a3⟩ := HZ8.out
 have ch := (((a3.pull B8.out hpw).setN (p := ⟨w.heap.size + 1, 0, none⟩) (by simp) hpw (.int .i64 1)).setN (p := ⟨w.heap.size + 1, 1, none⟩) (by simp) hpw (.string ⟨#[]⟩)).setN (p := ⟨w.heap.size + 1, 2, none⟩) (by simp) hpw (.int .i64 0)
 have hgR : w.heap.size + 1 ≠ g' := by rcases a2 with hh | hh <;> omega
 have oF : OwnL (((wB.setCell ⟨w.heap.size + 1, 0, none⟩ (.int .i64 1)).setCell ⟨w.heap.size + 1, 1, none⟩ (.string ⟨#[]⟩)).setCell ⟨w.heap.size + 1, 2, none⟩ (.int .i64 0)) g' c' (insL W.rows key val) := ⟨((a1.row.other hgR _).other hgR _).other hgR _, a1.len, a1.most⟩
 have hlg : base ≤ g' := by have q1 := lo.r; rcases a2 with hh | hh <;> omega
 exact ⟨rfl, H.out.storedR lo hlg HZ.out hi (by have h1 := plusL_len W.rows key val; rw [plus_ins HRR.out] at h1; have := HZ.out.rows.1; omega) (HZ.out.rows.sz.ins (by omega) (by omega)) oF ch, ch.bel lo.r lo.x hb, fun b hb h1 _ h3 _ => ch.other b hb h3 h1⟩
set_option maxHeartbeats 4000000 in
theorem put_row_new (base X S gR cR : Nat) (G C : Nat → Nat → Nat) (W : Wd) (i : Nat) (key val : ByteArray) (w : World) (h : OwnD w X S gR cR G C W) (lo : LoD base X S gR G W.ss.length) (hw : WorldOk W) (hb : base ≤ w.heap.size) (hi : i < W.ss.length) (hkz : key.size ≤ 8) (hvz : val.size ≤ 60) (hown : fndL W.ss[i].wr key = false) (hc0 : cntL (W.ss.flatMap (·.wr)) key = 0) (hfn : fndL (allL W) key = false) (hfl : (allL W).length < 100) (hst : W.ss[i].st ≠ 1) :
  Calls Tryz.prog 71 #[.pointer (some ⟨X, 0, none⟩), .int .i64 i, .agg #[.int .i64 10, .string key, .string val]] w (DonePost w base X S gR G W.ss.length ⟨insL W.rows key val, W.ss⟩) := by
 have HOWN := jD hown
 have HROOM := jD (room_rows hw (key := key) (fun hh => by omega))
 have HRR := jD ((pairsB_rising hw.rows).1)
 clear hown
 have hz := worldOk_sz hw
 have hXw := h.box.lt
 have hSw := h.blk.lt
 have hpr := pairsB_rising hw.rows
 have HCW := jD (fun (w9 : World) (h9 : Wld w9 w9.heap.size (slc gR W.rows.length cR) (slc S W.ss.length W.ss.length) W) => countWriters_any _ _ W w9 h9 hpr.2.1 hpr.1 hw.many (fun j hj => (pairsB_rising (hw.sess j hj).wr).2.1))
 have HWR := jD ((pairsB_rising (hw.sess i hi).wr).1)
 have b0 : Below w.heap.size w ((w.alloc (.cells #[.int .i64 10, .string key, .string val] 41)).alloc (.cells #[.int .i64 0, .string ⟨#[]⟩, .int .i64 0] 46)) := ((Below.refl _ _).alloc (nL _) _).alloc (by simp) _
 have h0 := h.kept b0
 have x0 := h.box.cell (j := 0) (by simp)
 have x1 := h.box.cell (j := 1) (by simp)
 simp only [gCZ, gCS] at x0 x1
 unfold slc at x0 x1
 have X0 : RowTo ((w.alloc (.cells #[.int .i64 10, .string key, .string val] 41)).alloc (.cells #[.int .i64 0, .string ⟨#[]⟩, .int .i64 0] 46)) (w.heap.size + 1) 46 3 [.int .i64 0, .string ⟨#[]⟩, .int .i64 0] := by
  have := RowTo.whole (w.alloc (.cells #[.int .i64 10, .string key, .string val] 41)) #[.int .i64 0, .string ⟨#[]⟩, .int .i64 0] 46
  simpa using this
 have Y0 : RowTo ((w.alloc (.cells #[.int .i64 10, .string key, .string val] 41)).alloc (.cells #[.int .i64 0, .string ⟨#[]⟩, .int .i64 0] 46)) w.heap.size 41 3 [.int .i64 10, .string key, .string val] := (RowTo.whole w #[.int .i64 10, .string key, .string val] 41).alloc _
 have hzs : ((w.alloc (.cells #[.int .i64 10, .string key, .string val] 41)).alloc (.cells #[.int .i64 0, .string ⟨#[]⟩, .int .i64 0] 46)).heap.size = w.heap.size + 1 + 1 := by simp
 have hkey := klKey (s := key) (by omega)
 have hii : (i : Int) < (W.ss.length : Int) := by omega
 have H := jD h
 have H0 := jD h0
 have HZ := jD hz
 have HW := jD hw
 have B0 := jD b0
 have HX0 := jD X0
 have HY0 := jD Y0
 have HZS := jD hzs
 clear h h0 hz hw b0 X0 Y0 hzs hpr
 go_enter Tryz.func71, Tryz.ntmps71
 go_wp2_with fail
 refine (HCW.out _ (H0.out.wld HZ.out)).mono ?_
 rintro e w1 ⟨bm, n, M, rfl, hown, hmap, hn, hbm, hb1⟩
 have hs1 := hb1.size
 have H1 := jD (H0.out.kept hb1)
 have B1 := jD (bel_add' B0.out hb1 B0.out.size)
 have X1 := jD (HX0.out.below hb1 HX0.out.lt)
 have Y1 := HY0.out.below hb1 HY0.out.lt
 have q1 := Y1.cell (j := 1) (by simp)
 simp only [gCZ, gCS] at q1
 have HY1 := jD Y1
 have HO := jD hown
 have HM := jD hmap
 have HAT := jD (hmap.at_ key)
 have hhas : Maps.has M (kl key) = fndL (allL W) key := hmap.has key
 have hsize : Maps.size M = (allL W).length := hmap.size
 rw [HZS.out] at hs1
 have hbm' : w.heap.size + 1 + 1 ≤ bm := by rw [HZS.out] at hbm; exact hbm
 clear hown hmap hb1 Y1 x0 x1 hbm
 have g1 : decide ((0 : Int) < (cntL (W.ss.flatMap (·.wr)) key : Int)) = false := decide_eq_false (by omega)
 have g2 : decide (0 < cntL (W.ss.flatMap (·.wr)) key) = false := decide_eq_false (by omega)
 rw [hfn] at hhas
 have g3 : decide ((100 : Int) ≤ ((allL W).length : Int)) = false := decide_eq_false (by omega)
 have g4 : decide (100 ≤ (allL W).length) = false := decide_eq_false (by omega)
 go_wp2_with (first
  | (at_lookup; refine wpList_lookup_own_ok_int _ rfl _ _ 162 rfl 9 3 .i64 strLaw Tryz.underlying162 Tryz.underlying3 (zeroInt _) bm n _ rfl HO.out _ _ rfl hkey ?_; intro q hat hwq; obtain rfl : q = (cntL (W.ss.flatMap (·.wr)) key : Int) := (lit_inj (HAT.out.symm.trans hat)).symm; clear hat hwq)
  | go_in)
 have q4 : w1.cell? ⟨S, i * 5 + 4, none⟩ = some (.slice (some ⟨G i 3, 0, none⟩) W.ss[i].wr.length (C i 3)) := H1.out.cs i 3 hi (by omega)
 have hl4 := jD (show Lst w1 w1.heap.size (.slice (some ⟨G i 3, 0, none⟩) W.ss[i].wr.length (C i 3)) W.ss[i].wr from H1.out.list HZ.out hi (j := 3) (by omega))
 have hz0 : w.heap.size < w1.heap.size := by omega
 have hz1 : S < w1.heap.size := H1.out.blk.lt
 have kb := Below.refl w1.heap.size w1
 have dS := jD (show w1.drew.cell? ⟨S, i * 5 + 4, none⟩ = some (.slice (some ⟨G i 3, 0, none⟩) W.ss[i].wr.length (C i 3)) ∧ w1.drew.cell? ⟨w.heap.size, 1, none⟩ = some (.string key) from ⟨q4, q1⟩)
 go_region_held3 (fun wx => wx.cell? ⟨S, i * 5 + 4, none⟩ = some (.slice (some ⟨G i 3, 0, none⟩) W.ss[i].wr.length (C i 3)) ∧ wx.cell? ⟨w.heap.size, 1, none⟩ = some (.string key))
  (first
   | with_reducible exact ⟨q4, q1⟩
   | with_reducible exact dS.out
   | with_reducible exact ⟨(kb.cell (p := ⟨S, i * 5 + 4, none⟩) hz1).trans q4, (kb.cell (p := ⟨w.heap.size, 1, none⟩) hz0).trans q1⟩)
  (first
   | (
    go_at_call 95
    refine (place_any _ W.ss[i].wr key _ (by first | exact hl4.out | exact (hl4.out.step ((Below.refl _ _).drew)) | exact (hl4.out.step (below_drewN (Below.refl _ _) _))) HWR.out).mono ?_
    rw [HOWN.out]
    rintro e w8 ⟨rfl, hy⟩
    have kb : Below w1.heap.size w1 w8 := by first | exact kb.trans (hy.mono kb.size) | exact kb.trans ⟨hy.os, hy.tape, hy.output, hy.size, fun i hi => hy.block i (Nat.lt_of_lt_of_le hi kb.size)⟩))
 have hs8 := kb.size
 have H8 := jD (H1.out.kept kb)
 have B8 := jD (bel_add' B1.out kb B1.out.size)
 have X8 := jD (X1.out.below kb X1.out.lt)
 have Y8 := jD (HY1.out.below kb HY1.out.lt)
 have O8 := jD (HO.out.kept (grown_of_below kb none) (by simp))
 clear kb q1 q4 dS
 have hlen := O8.out.len (t := 162) (e := 3) Tryz.underlying162
 have c0 := H8.out.st i hi
 have e9 : (W.ss[i].st == 1) = false := beq_eq_false_iff_ne.2 hst
 have pc : w8.cell? ⟨X, 0, none⟩ = some (.slice (some ⟨gR, 0, none⟩) W.rows.length cR) := by have := H8.out.box.cell (j := 0) (by simp); simpa [slc] using this
 have pf := H8.out.box.frozen 0
 have hneg : X ≠ gR := Ne.symm H8.out.neRX
 have hgw : gR < w.heap.size := H.out.rows.row.lt
 have hpw : X < w.heap.size := hXw
 have HSTORE := jD (fun (w9 : World) (ho9 : OwnL w9 gR cR W.rows) (hp9 : w9.cell? ⟨X, 0, none⟩ = some (.slice (some ⟨gR, 0, none⟩) W.rows.length cR)) (hf9 : w9.frozen? ⟨X, 0, none⟩ = false) => store_ok gR cR X 0 W.rows 10 key val 100 w9 ho9 HRR.out (by have := HZ.out.rows.1; omega) (HZ.out.rows.sz) hp9 hf9 hneg (by omega) (by omega) HROOM.out)
 have O9 := jD (show OwnL w8 gR cR W.rows from H8.out.rows)
 have PC := jD (And.intro pc pf)
 have hw8 : w.heap.size < w8.heap.size := by omega
 have hR8 : w.heap.size + 1 < w8.heap.size := by omega
 have y0 := Y8.out.cell (j := 0) (by simp)
 have y1 := Y8.out.cell (j := 1) (by simp)
 have y2 := Y8.out.cell (j := 2) (by simp)
 simp only [gCZ, gCS] at y0 y1 y2
 clear pc pf
 go_wp2
 have dS := jD (show w8.drew.cell? ⟨w.heap.size, 0, none⟩ = some (.int .i64 10) ∧ w8.drew.cell? ⟨w.heap.size, 1, none⟩ = some (.string key) ∧ w8.drew.cell? ⟨w.heap.size, 2, none⟩ = some (.string val) from ⟨y0, y1, y2⟩)
 have hne1 : w.heap.size ≠ gR := by omega
 have hne2 : w.heap.size ≠ X := by omega
 have hne3 : w.heap.size + 1 ≠ gR := by omega
 have hne4 : w.heap.size + 1 ≠ X := by omega
 go_region_held3 (fun wx => wx.cell? ⟨w.heap.size, 0, none⟩ = some (.int .i64 10) ∧ wx.cell? ⟨w.heap.size, 1, none⟩ = some (.string key) ∧ wx.cell? ⟨w.heap.size, 2, none⟩ = some (.string val))
  (first
   | with_reducible exact ⟨y0, y1, y2⟩
   | with_reducible exact dS.out
   | with_reducible exact ⟨cell_set3' z0 (by omega), cell_set3' z1 (by omega), cell_set3' z2 (by omega)⟩
   | with_reducible exact ⟨z0, z1, z2⟩)
  (first
   | (
    go_at_call 70
    refine (HSTORE.out _ (by first | exact O9.out | exact O9.out.same rfl) (by first | exact PC.out.1 | assumption) (by first | exact PC.out.2 | assumption)).mono ?_
    rintro e wB ⟨g', c', rfl, ho', hl', hc⟩
    have hcB : Chg w8 wB gR X 0 (.slice (some ⟨g', 0, none⟩) (insL W.rows key val).length c') := ⟨hc.os, hc.tape, hc.output, hc.size, hc.other, hc.here⟩
    have hlB : g' = gR ∨ w8.heap.size ≤ g' := hl'
    have z0 := (World.cell?_of_block (a := ⟨w.heap.size, 0, none⟩) (hcB.other _ hw8 hne1 hne2)).trans y0
    have z1 := (World.cell?_of_block (a := ⟨w.heap.size, 1, none⟩) (hcB.other _ hw8 hne1 hne2)).trans y1
    have z2 := (World.cell?_of_block (a := ⟨w.heap.size, 2, none⟩) (hcB.other _ hw8 hne1 hne2)).trans y2
    have RB := X8.out.same (hcB.other _ hR8 hne3 hne4)
    have r0 := RB.cell (j := 0) (by simp)
    have r1 := RB.cell (j := 1) (by simp)
    have r2 := RB.cell (j := 2) (by simp)
    have s0 := RB.frozen 0
    have s1 := RB.frozen 1
    have s2 := RB.frozen 2
    simp only [gCZ, gCS] at r0 r1 r2
    unfold ansV))
 have HZ8 := jD (And.intro ho' (And.intro hlB hcB))
 clear ho' hlB hcB hl' hc RB z0 z1 z2
 go_wp2
 refine bodyPost_ret (v := .agg #[.int .i64 1, .string ⟨#[]⟩, .int .i64 0]) (by simp [results, Tryz.results71, go_sem, r0, r1, r2]) rfl ?_
 obtain ⟨a1, a2, a3⟩ := HZ8.out
 have ch := (((a3.pull B8.out hpw).setN (p := ⟨w.heap.size + 1, 0, none⟩) (by simp) hpw (.int .i64 1)).setN (p := ⟨w.heap.size + 1, 1, none⟩) (by simp) hpw (.string ⟨#[]⟩)).setN (p := ⟨w.heap.size + 1, 2, none⟩) (by simp) hpw (.int .i64 0)
 have hgR : w.heap.size + 1 ≠ g' := by rcases a2 with hh | hh <;> omega
 have oF : OwnL (((wB.setCell ⟨w.heap.size + 1, 0, none⟩ (.int .i64 1)).setCell ⟨w.heap.size + 1, 1, none⟩ (.string ⟨#[]⟩)).setCell ⟨w.heap.size + 1, 2, none⟩ (.int .i64 0)) g' c' (insL W.rows key val) := ⟨((a1.row.other hgR _).other hgR _).other hgR _, a1.len, a1.most⟩
 have hlg : base ≤ g' := by have q1 := lo.r; rcases a2 with hh | hh <;> omega
 exact ⟨rfl, H.out.storedR lo hlg HZ.out hi (by have h1 := plusL_len W.rows key val; rw [plus_ins HRR.out] at h1; have := HZ.out.rows.1; omega) (HZ.out.rows.sz.ins (by omega) (by omega)) oF ch, ch.bel lo.r lo.x hb, fun b hb h1 _ h3 _ => ch.other b hb h3 h1⟩
def ExPost (w : World) (base X S gR : Nat) (G : Nat → Nat → Nat) (n : Nat) (r : Wd × Ans) (e : Ending) (w' : World) : Prop := e = .returned (ansV r.2.kind r.2.text) ∧ EndW w' base X S r.1 ∧ Below base w w' ∧ Rest w w' X S gR G n
theorem OwnD.ends {w : World} {base X S gR cR : Nat} {G C : Nat → Nat → Nat} {W : Wd} (h : OwnD w X S gR cR G C W) (lo : LoD base X S gR G W.ss.length) (hz : SzW W) : EndW w base X S W :=
 ⟨⟨_, h.box, h.wld hz, LoV.slc lo.r⟩, h.blk, lo.x, lo.s, fun k j v hk hj hv => by rw [h.cs k j hk hj] at hv; injection hv with hv; rw [← hv]; exact lo.v hk hj⟩
theorem ExPost.same {w w' : World} {base X S gR cR : Nat} {G C : Nat → Nat → Nat} {W : Wd} {k : Int} {t : ByteArray} (h : OwnD w X S gR cR G C W) (lo : LoD base X S gR G W.ss.length) (hz : SzW W) (hb : base ≤ w.heap.size) {e : Ending} (he : e = .returned (ansV k t)) (b : Below w.heap.size w w') {n : Nat} : ExPost w base X S gR G n (W, ⟨k, t⟩) e w' :=
 ⟨he, (h.kept b).ends lo hz, b.mono hb, fun c hc _ _ _ _ => b.block c hc⟩
theorem ExPost.done {w w' : World} {base X S gR n : Nat} {G : Nat → Nat → Nat} {W : Wd} {e : Ending} (h : DonePost w base X S gR G n W e w') : ExPost w base X S gR G n (W, ok') e w' := h
theorem RowTo.out_ {w : World} {g t n : Nat} {xs : List Value} (h : RowTo w g t n xs) {j : Nat} (hj : n ≤ j) : w.cell? ⟨g, j, none⟩ = none := by
 obtain ⟨cur, hh, hs, hx⟩ := h
 unfold World.cell?
 simp only [hh]
 show cur[j]? = _
 exact Array.getElem?_eq_none (by omega)
theorem RowTo.type {w : World} {g t n t' n' : Nat} {xs ys : List Value} (h : RowTo w g t n xs) (k : RowTo w g t' n' ys) : t = t' := by
 obtain ⟨cur, hh, _⟩ := h
 obtain ⟨cur', hk, _⟩ := k
 rw [hh] at hk
 injection hk with hk
 injection hk
theorem Lst.off {w w' : World} {B R : Nat} {v : Value} {l : PL} {x y : Int} {s : ByteArray} (hR : RowTo w R 46 3 [.int .i64 x, .string s, .int .i64 y]) (h : Lst w B v l) (hk : ∀ b, b ≠ R → w'.heap[b]? = w.heap[b]?) : Lst w' B v l := by
 refine ⟨h.form, h.bytes, h.sizes, fun hn => ?_, h.nil⟩
 obtain ⟨b, off, c, e, hb, hc⟩ := h.cells hn
 have hne : b ≠ R := by
  rintro rfl
  obtain ⟨h1, h2⟩ := hc 0 hn
  rw [Nat.zero_mul, Nat.add_zero] at h1 h2
  have r0 := hR.cell (j := 0) (by simp)
  have r2 := hR.cell (j := 2) (by simp)
  simp only [gCZ, gCS] at r0 r2
  rcases Nat.lt_or_ge off 3 with ho | ho
  ·obtain rfl | rfl | rfl : off = 0 ∨ off = 1 ∨ off = 2 := by omega
   ·rw [r0] at h1; cases h1
   ·rw [r2] at h2; cases h2
   ·rw [r2] at h1; cases h1
  ·rw [hR.out_ ho] at h1; cases h1
 exact ⟨b, off, c, e, hb, fun i hi => ⟨(World.cell?_of_block (hk b hne)).trans (hc i hi).1, (World.cell?_of_block (hk b hne)).trans (hc i hi).2⟩⟩
theorem EndW.off {w w' : World} {base X S R : Nat} {W : Wd} {x y : Int} {s : ByteArray} (h : EndW w base X S W) (hR : RowTo w R 46 3 [.int .i64 x, .string s, .int .i64 y]) (hs : w'.heap.size = w.heap.size) (hk : ∀ b, b ≠ R → w'.heap[b]? = w.heap[b]?) : EndW w' base X S W := by
 obtain ⟨r, hbox, ⟨hr, hss⟩, hlr⟩ := h.box
 have hX : X ≠ R := by rintro rfl; exact absurd (hbox.type hR) (by decide)
 have hS : S ≠ R := by intro e; have k := h.blk; rw [e] at k; exact absurd (k.type hR) (by decide)
 refine ⟨⟨r, hbox.same (hk X hX), ⟨?_, ?_⟩, hlr⟩, h.blk.same (hk S hS), h.loX, h.loS, fun k j v hk' hj hv => h.los k j v hk' hj ((World.cell?_of_block (hk S hS)).symm.trans hv)⟩
 ·rw [hs]; exact hr.off hR hk
 ·rw [hs]
  refine ⟨hss.form, hss.bytes, fun hn => ?_⟩
  obtain ⟨b, off, c, e, hb, hc⟩ := hss.cells hn
  refine ⟨b, off, c, e, hb, fun i hi => ?_⟩
  obtain ⟨v1, v2, v3, v4, q⟩ := hc i hi
  have hbS : b = S := by unfold slc at e; injection e with e; injection e with e; injection e with e; exact e.symm
  have cs : ∀ j, w'.cell? ⟨b, j, none⟩ = w.cell? ⟨b, j, none⟩ := fun j => World.cell?_of_block (hk b (by rw [hbS]; exact hS))
  exact ⟨v1, v2, v3, v4, (cs _).trans q.c0, (cs _).trans q.c1, (cs _).trans q.c2, (cs _).trans q.c3, (cs _).trans q.c4, q.l1.off hR hk, q.l2.off hR hk, q.l3.off hR hk, q.l4.off hR hk⟩
theorem ExPost.laid {w w0 wB : World} {base X S gR n R : Nat} {G : Nat → Nat → Nat} {r : Wd × Ans} {e : Ending} {x y : Int} {s : ByteArray} (h : ExPost w0 base X S gR G n r e wB) (b : Below w.heap.size w w0) (hb : base ≤ w.heap.size) (hw : w.heap.size ≤ R)
  (hR : RowTo wB R 46 3 [.int .i64 x, .string s, .int .i64 y]) (p1 p2 p3 : Value) :
  ExPost w base X S gR G n r (.returned (ansV r.2.kind r.2.text)) (((wB.setCell ⟨R, 0, none⟩ p1).setCell ⟨R, 1, none⟩ p2).setCell ⟨R, 2, none⟩ p3) := by
 obtain ⟨_, h2, h3, h4⟩ := h
 have hk : ∀ c, c ≠ R → (((wB.setCell ⟨R, 0, none⟩ p1).setCell ⟨R, 1, none⟩ p2).setCell ⟨R, 2, none⟩ p3).heap[c]? = wB.heap[c]? := fun c hc => by
  rw [Below.heap_setCell _ _ _ _ hc, Below.heap_setCell _ _ _ _ hc, Below.heap_setCell _ _ _ _ hc]
 have hsz : (((wB.setCell ⟨R, 0, none⟩ p1).setCell ⟨R, 1, none⟩ p2).setCell ⟨R, 2, none⟩ p3).heap.size = wB.heap.size := by simp [World.setCell]
 refine ⟨rfl, h2.off hR hsz hk, ?_, fun c hc a1 a2 a3 a4 => ?_⟩
 ·exact ((((b.mono hb).trans h3).setCell (by show base ≤ R; omega) _).setCell (by show base ≤ R; omega) _).setCell (by show base ≤ R; omega) _
 ·rw [hk c (by omega), h4 c (by have := b.size; omega) a1 a2 a3 a4]
  exact b.block c hc
theorem cnt_fnd : ∀ {l : PL} {key : ByteArray}, 1 ≤ cntL l key → fndL l key = true
 | [], _, h => by simp [cntL] at h
 | p :: l, key, h => by
  rw [cntL_cons] at h
  have ih := cnt_fnd (l := l) (key := key)
  unfold fndL at ih ⊢
  cases e : eqB p.1 key
  ·rw [e] at h
   simp only [atL, e]
   exact ih (by simpa using h)
  ·simp only [atL, e]
   rfl
theorem put_any (base X S gR cR : Nat) (G C : Nat → Nat → Nat) (W : Wd) (i : Nat) (key val : ByteArray) (w : World) (h : OwnD w X S gR cR G C W) (lo : LoD base X S gR G W.ss.length) (hw : WorldOk W) (hb : base ≤ w.heap.size) (hi : i < W.ss.length) (hkz : key.size ≤ 8) (hvz : val.size ≤ 60) (hst : W.ss[i].st ≠ 2) :
  Calls Tryz.prog 71 #[.pointer (some ⟨X, 0, none⟩), .int .i64 i, .agg #[.int .i64 10, .string key, .string val]] w (ExPost w base X S gR G W.ss.length (did1 W i 10 key val)) := by
 have hz := worldOk_sz hw
 have hrw := (pairsB_rising (hw.sess i hi).wr).1
 have hrr := (pairsB_rising hw.rows).1
 have hd : did1 W i 10 key val = (if heldB W.ss i key = true then (W, no' tHeld)
  else if fndL (allL W) key = false ∧ 100 ≤ (allL W).length then (W, no' tFull)
  else if W.ss[i].st = 1 then (W.put i { W.ss[i] with wr := insL W.ss[i].wr key val }, ok')
  else (⟨insL W.rows key val, W.ss⟩, ok')) := by
  unfold did1
  simp only [getD_at hi, plus_ins hrw, plus_ins hrr]
  rw [if_neg (fun hh => hst hh.1)]
  simp
 rw [hd]
 have hcn := held_cnt hw hi key
 by_cases h1 : heldB W.ss i key = true
 ·rw [if_pos h1]
  exact (put_held base X S gR cR G C W i key val w h lo hw hb hi hkz hvz h1).mono fun e w' hh => ExPost.same h lo hz hb hh.1 hh.2
 rw [if_neg h1]
 rw [Bool.not_eq_true] at h1
 rw [h1] at hcn
 cases ho : fndL W.ss[i].wr key
 ·have hc0 : cntL (W.ss.flatMap (·.wr)) key = 0 := by
   rw [ho] at hcn
   simp at hcn
   exact hcn
  by_cases h2 : fndL (allL W) key = false ∧ 100 ≤ (allL W).length
  ·rw [if_pos h2]
   exact (put_full_none base X S gR cR G C W i key val w h lo hw hb hi hkz hvz ho hc0 h2.1 h2.2).mono fun e w' hh => ExPost.same h lo hz hb hh.1 hh.2
  rw [if_neg h2]
  cases hf : fndL (allL W) key
  ·have hfl : (allL W).length < 100 := by
    rcases Nat.lt_or_ge (allL W).length 100 with hh | hh
    ·exact hh
    ·exact absurd ⟨hf, hh⟩ h2
   by_cases h3 : W.ss[i].st = 1
   ·rw [if_pos h3]
    exact (put_wr_new base X S gR cR G C W i key val w h lo hw hb hi hkz hvz ho hc0 hf hfl h3).mono fun e w' hh => ExPost.done hh
   ·rw [if_neg h3]
    exact (put_row_new base X S gR cR G C W i key val w h lo hw hb hi hkz hvz ho hc0 hf hfl h3).mono fun e w' hh => ExPost.done hh
  ·by_cases h3 : W.ss[i].st = 1
   ·rw [if_pos h3]
    exact (put_wr_is base X S gR cR G C W i key val w h lo hw hb hi hkz hvz ho hc0 hf h3).mono fun e w' hh => ExPost.done hh
   ·rw [if_neg h3]
    exact (put_row_is base X S gR cR G C W i key val w h lo hw hb hi hkz hvz ho hc0 hf h3).mono fun e w' hh => ExPost.done hh
 ·have hf : fndL (allL W) key = true := by
   cases hf : fndL (allL W) key
   ·exfalso
    have h5 := allF_fnd (R := W.rows) (k := key) hrr (W.ss.flatMap (·.wr))
    rw [show allF W.rows (W.ss.flatMap (·.wr)) = allL W from rfl, hf] at h5
    have h6 : 1 ≤ cntL (W.ss.flatMap (·.wr)) key := Nat.le_trans ((some_cnt hrw).2 ho) (cnt_one hi)
    have h7 : fndL (W.ss.flatMap (·.wr)) key = true := cnt_fnd h6
    rw [h7] at h5
    simp at h5
   ·rfl
  rw [if_neg (fun hh => by rw [hf] at hh; cases hh.1)]
  by_cases h3 : W.ss[i].st = 1
  ·rw [if_pos h3]
   exact (put_wr_own base X S gR cR G C W i key val w h lo hw hb hi hkz hvz ho hf h3).mono fun e w' hh => ExPost.done hh
  ·exfalso
   have h8 := (hw.sess i hi).tx h3
   rw [h8] at ho
   cases ho
end Go.Proofs.YtpbaobmegomfpabGreatDoor
namespace Go.Proofs.YtpbaobmegomfpabGreatDoor
open Go.RowKit
set_option maxHeartbeats 1000000 in
theorem end_no (w : World) (p q : Addr) (k : Int) (hc : w.cell? p = some (.int .i64 0)) :
  Calls Tryz.prog 66 #[.pointer (some q), .pointer (some p), .int .i64 k] w fun e w' => e = .returned (ansV 4 tNoTx) ∧ Below w.heap.size w w' := by
 have hp := World.block_lt_of_cell? w _ hc
 go_enter Tryz.func66, Tryz.ntmps66
 go_wp2_with fail
 refine (failure_any tNoTx _).mono ?_
 rintro e w9 ⟨rfl, hb9⟩
 have X9 := (RowTo.whole w #[.int .i64 0, .string ⟨#[]⟩, .int .i64 0] 46).below hb9 (by simp)
 have r0 := X9.cell (j := 0) (by simp)
 have r1 := X9.cell (j := 1) (by simp)
 have r2 := X9.cell (j := 2) (by simp)
 have s0 := X9.frozen 0
 have s1 := X9.frozen 1
 have s2 := X9.frozen 2
 simp only [gCZ, gCS] at r0 r1 r2
 have B9 := jD (bel_add' ((Below.refl w.heap.size w).alloc (nL _) _) hb9 (by simp))
 clear X9 hb9
 unfold ansV
 go_wp2
 refine bodyPost_ret (v := .agg #[.int .i64 4, .string tNoTx, .int .i64 0]) (by simp [results, Tryz.results66, go_sem, r0, r1, r2]) rfl ⟨rfl, ?_⟩
 exact ((B9.out.setCell (by simp) _).setCell (by simp) _).setCell (by simp) _
set_option maxHeartbeats 2000000 in
theorem end_back (base X S gR cR : Nat) (G C : Nat → Nat → Nat) (W : Wd) (i : Nat) (k : Int) (w : World) (h : OwnD w X S gR cR G C W) (lo : LoD base X S gR G W.ss.length) (hz : SzW W) (hb : base ≤ w.heap.size) (hi : i < W.ss.length) (hst : W.ss[i].st ≠ 0) (hk : ¬ (k = 2 ∧ W.ss[i].st = 1)) :
  Calls Tryz.prog 66 #[.pointer (some ⟨X, 0, none⟩), .pointer (some ⟨S, i * 5, none⟩), .int .i64 k] w (DonePost w base X S gR G W.ss.length (W.put i { W.ss[i] with st := 0, set := W.ss[i].sav, sav := [], wr := [] })) := by
 have c0 := h.st i hi
 have c3 : w.cell? ⟨S, i * 5 + 3, none⟩ = some (.slice (some ⟨G i 2, 0, none⟩) W.ss[i].sav.length (C i 2)) := h.cs i 2 hi (by omega)
 have hSw := h.blk.lt
 have f0 := h.blk.frozen (i * 5)
 have f1 := h.blk.frozen (i * 5 + 1)
 have f3 := h.blk.frozen (i * 5 + 3)
 have f4 := h.blk.frozen (i * 5 + 4)
 obtain ⟨u1, d1⟩ := h.blk.any (j := i * 5 + 1) (by omega)
 obtain ⟨u4, d4⟩ := h.blk.any (j := i * 5 + 4) (by omega)
 have e0 : (W.ss[i].st == 0) = false := beq_eq_false_iff_ne.2 hst
 have hcase : (k == 2) = false ∨ ((k == 2) = true ∧ (W.ss[i].st == 1) = false) := by
  by_cases h2 : k = 2
  ·exact .inr ⟨beq_iff_eq.2 h2, beq_eq_false_iff_ne.2 (fun h1 => hk ⟨h2, h1⟩)⟩
  ·exact .inl (beq_eq_false_iff_ne.2 h2)
 have H := jD h
 have HZ := jD hz
 clear h hst hk
 rcases hcase with hk | ⟨hk, hk1⟩
 all_goals
  go_enter Tryz.func66, Tryz.ntmps66
  go_wp2_with fail
  have ch1 := (((((Chs.refl w S).setS (j := i * 5 + 1) (.slice (some ⟨G i 2, 0, none⟩) W.ss[i].sav.length (C i 2))).setS (j := i * 5) (.int .i64 0)).setS (j := i * 5 + 3) (.slice none 0 0)).setS (j := i * 5 + 4) (.slice none 0 0)).alloc hSw (.cells #[.int .i64 0, .string ⟨#[]⟩, .int .i64 0] 46)
  have X0 : RowTo (((((w.setCell ⟨S, i * 5 + 1, none⟩ (.slice (some ⟨G i 2, 0, none⟩) W.ss[i].sav.length (C i 2))).setCell ⟨S, i * 5, none⟩ (.int .i64 0)).setCell ⟨S, i * 5 + 3, none⟩ (.slice none 0 0)).setCell ⟨S, i * 5 + 4, none⟩ (.slice none 0 0)).alloc (.cells #[.int .i64 0, .string ⟨#[]⟩, .int .i64 0] 46)) w.heap.size 46 3 [.int .i64 0, .string ⟨#[]⟩, .int .i64 0] := by
   have := RowTo.whole ((((w.setCell ⟨S, i * 5 + 1, none⟩ (.slice (some ⟨G i 2, 0, none⟩) W.ss[i].sav.length (C i 2))).setCell ⟨S, i * 5, none⟩ (.int .i64 0)).setCell ⟨S, i * 5 + 3, none⟩ (.slice none 0 0)).setCell ⟨S, i * 5 + 4, none⟩ (.slice none 0 0)) #[.int .i64 0, .string ⟨#[]⟩, .int .i64 0] 46
   simpa [World.setCell] using this
  refine (done_any _).mono ?_
  rintro e w3 ⟨rfl, hy3⟩
  have ch3 := ch1.below hy3 ch1.size hSw
  have X3 := X0.below hy3 X0.lt
  have r0 := X3.cell (j := 0) (by simp)
  have r1 := X3.cell (j := 1) (by simp)
  have r2 := X3.cell (j := 2) (by simp)
  have s0 := X3.frozen 0
  have s1 := X3.frozen 1
  have s2 := X3.frozen 2
  simp only [gCZ, gCS] at r0 r1 r2
  have HC3 := jD ch3
  clear ch1 ch3 X0 X3 hy3
  unfold ansV
  go_wp2
  refine bodyPost_ret (v := .agg #[.int .i64 1, .string ⟨#[]⟩, .int .i64 0]) (by simp [results, Tryz.results66, go_sem, r0, r1, r2]) rfl ?_
  have ch := ((HC3.out.setN (p := ⟨w.heap.size, 0, none⟩) (nL _) hSw (.int .i64 1)).setN (p := ⟨w.heap.size, 1, none⟩) (nL _) hSw (.string ⟨#[]⟩)).setN (p := ⟨w.heap.size, 2, none⟩) (nL _) hSw (.int .i64 0)
  refine ⟨rfl, ?_, ch.bel lo.s hb, fun b hb _ h2 _ _ => ch.other b hb h2⟩
  have hh := H.out
  have hzz := HZ.out
  have hrow := (((hh.blk.hit (j := i * 5 + 1) (.slice (some ⟨G i 2, 0, none⟩) W.ss[i].sav.length (C i 2))).hit (j := i * 5) (.int .i64 0)).hit (j := i * 5 + 3) (.slice none 0 0)).hit (j := i * 5 + 4) (.slice none 0 0)
  refine hh.turned lo ?_ (v3 := .slice none 0 0) (v4 := .slice none 0 0) hzz hi ch hrow (fun k j hk hj => ?_) ?_ ?_ ?_ ?_ ?_ (hh.li_kept hzz hi (j := 2) (by omega) ch) (hh.li_kept hzz hi (j := 1) (by omega) ch) (Lst.none_ _ _) (Lst.none_ _ _)
  ·exact ⟨lo.v hi (by omega), lo.v hi (by omega), LoV.non _ _ _, LoV.non _ _ _⟩
  ·rw [cell_off _ (by omega), cell_off _ (by omega), cell_off _ (by omega), cell_off _ (by omega)]
  ·rw [cell_off _ (by omega), cell_off _ (by omega)]; exact cell_put (hh.blk.hit _) (by omega) _
  ·rw [cell_off _ (by omega), cell_off _ (by omega), cell_off _ (by omega)]; exact cell_put hh.blk (by omega) _
  ·rw [cell_off _ (by omega), cell_off _ (by omega), cell_off _ (by omega), cell_off _ (by omega)]; exact hh.cs i 1 hi (by omega)
  ·rw [cell_off _ (by omega)]; exact cell_put ((hh.blk.hit _).hit _) (by omega) _
  ·exact cell_put (((hh.blk.hit _).hit _).hit _) (by omega) _
end Go.Proofs.YtpbaobmegomfpabGreatDoor
