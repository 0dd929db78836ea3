/-
  Texts of the proof, one behind the other: BChk2, BCheck, BChkDo.
-/
import Derived.Test.YtpbaobmegomfpabGreatDoorM16
import Derived.Test.YtpbaobmegomfpabGreatDoorM7
set_option linter.unusedVariables false
set_option linter.unusedSimpArgs false
set_option maxRecDepth 100000
open List renaming getElem_toArray → gTA, getElem_cons_zero → gCZ, getElem_cons_succ → gCS, setIfInBounds_toArray → sTA, set_cons_zero → sCZ, set_cons_succ → sCS
open Go.Lib renaming hid → jD
open Nat renaming le_refl → nL
namespace Go.Proofs.YtpbaobmegomfpabGreatDoor
open Go.RowKit
theorem sess_row' {w : World} {v0 v1 v2 v3 v4 : Value} : RowTo (w.alloc (.cells #[v0, v1, v2, v3, v4] 115)) w.heap.size 115 5 [v0, v1, v2, v3, v4] := RowTo.whole w #[v0, v1, v2, v3, v4] 115
set_option maxHeartbeats 4000000 in
theorem sessionFits_any (s : Sess) (v1 v2 v3 v4 : Value) (w : World) (h1 : Lst w w.heap.size v1 s.set) (h2 : Lst w w.heap.size v2 s.prep) (h3 : Lst w w.heap.size v3 s.sav) (h4 : Lst w w.heap.size v4 s.wr) (hW : Words w) :
  Calls Tryz.prog 91 #[.agg #[.int .i64 s.st, v1, v2, v3, v4]] w fun e w' => e = .returned (.bool (sessB s)) ∧ Below w.heap.size w w' := by
 obtain ⟨A1, c1, rfl, _⟩ := h1.form
 obtain ⟨A2, c2, rfl, _⟩ := h2.form
 obtain ⟨A3, c3, rfl, _⟩ := h3.form
 obtain ⟨A4, c4, rfl, _⟩ := h4.form
 have L1 := jD h1
 have L2 := jD h2
 have L3 := jD h3
 have L4 := jD h4
 have HW := jD hW
 clear h1 h2 h3 h4 hW
 have B0 := jD ((Below.refl w.heap.size w).alloc (nL _) (.cells #[.int .i64 s.st, .slice A1 s.set.length c1, .slice A2 s.prep.length c2, .slice A3 s.sav.length c3, .slice A4 s.wr.length c4] 115))
 have S0 := jD (sess_row' (w := w) (v0 := .int .i64 s.st) (v1 := .slice A1 s.set.length c1) (v2 := .slice A2 s.prep.length c2) (v3 := .slice A3 s.sav.length c3) (v4 := .slice A4 s.wr.length c4))
 by_cases hst : s.st < 0 ∨ 2 < s.st
 ·have HP := jD (sessB_st (s := s) (inB_no (by omega)))
  rcases hst with hst | hst
  ·have d1 : decide (s.st < 0) = true := decide_eq_true hst
   go_enter Tryz.func91, Tryz.ntmps91
   go_wp2
   go_ret
   exact ⟨by rw [HP.out]; rfl, B0.out⟩
  ·have d1 : decide (s.st < 0) = false := decide_eq_false (by omega)
   have d2 : decide (2 < s.st) = true := decide_eq_true hst
   go_enter Tryz.func91, Tryz.ntmps91
   go_wp2
   go_ret
   exact ⟨by rw [HP.out]; rfl, B0.out⟩
 have d1 : decide (s.st < 0) = false := decide_eq_false (by omega)
 have d2 : decide (2 < s.st) = false := decide_eq_false (by omega)
 have H0 := jD (show inB 0 s.st 2 = true from inB_yes (by omega))
 by_cases h5 : s.st = 0 ∧ 0 < s.sav.length
 ·have HP := jD (sessB_idle h5.1 h5.2)
  have e1 : (s.st == 0) = true := beq_iff_eq.2 h5.1
  have e2 : decide ((0 : Int) < (s.sav.length : Int)) = true := decide_eq_true (by omega)
  have e3 : decide (0 < s.sav.length) = true := decide_eq_true h5.2
  clear h5 hst
  go_enter Tryz.func91, Tryz.ntmps91
  go_wp2
  go_ret
  exact ⟨by rw [HP.out]; rfl, B0.out⟩
 by_cases h6 : s.st ≠ 1 ∧ 0 < s.wr.length
 ·have HP := jD (sessB_tx h6.1 h6.2)
  have e1 : (s.st != 1) = true := bne_iff_ne.2 h6.1
  have e2 : decide ((0 : Int) < (s.wr.length : Int)) = true := decide_eq_true (by omega)
  have e3 : decide (0 < s.wr.length) = true := decide_eq_true h6.2
  by_cases hs0 : s.st = 0
  ·have e4 : (s.st == 0) = true := beq_iff_eq.2 hs0
   have e5 : decide ((0 : Int) < (s.sav.length : Int)) = false := decide_eq_false (fun h => h5 ⟨hs0, by omega⟩)
   have e6 : decide (0 < s.sav.length) = false := decide_eq_false (fun h => h5 ⟨hs0, h⟩)
   clear h5 h6 hst hs0
   go_enter Tryz.func91, Tryz.ntmps91
   go_wp2
   go_ret
   exact ⟨by rw [HP.out]; rfl, B0.out⟩
  ·have e4 : (s.st == 0) = false := beq_eq_false_iff_ne.2 hs0
   clear h5 h6 hst hs0
   go_enter Tryz.func91, Tryz.ntmps91
   go_wp2
   go_ret
   exact ⟨by rw [HP.out]; rfl, B0.out⟩
 have HG := jD (fun a b c d => sessB_ok H0.out a b c d h5 h6)
 by_cases hs1 : s.st = 1
 ·have e1 : (s.st != 1) = false := by rw [hs1]; rfl
  have e4 : (s.st == 0) = false := by rw [hs1]; rfl
  clear h5 h6 hst hs1
  cases h1 : pairsB s.set 6 9
  ·have HP := jD (sessB_set h1)
   have H1 := jD h1
   clear h1
   go_enter Tryz.func91, Tryz.ntmps91
   go_wp2_with fail
   refine (listFits_any _ s.set 9 6 _ (L1.out.step B0.out) (HW.out.below B0.out) (by omega)).mono ?_
   rw [H1.out]
   rintro e w3 ⟨rfl, hb3⟩
   have B1 := jD (bel_add' B0.out hb3 B0.out.size)
   have S1 := jD (S0.out.below hb3 S0.out.lt)
   have y0 := S1.out.cell (j := 3) (by simp)
   simp only [gCZ, gCS] at y0
   clear hb3
   go_wp2
   go_ret
   exact ⟨by rw [HP.out]; rfl, B1.out⟩
  have H1 := jD h1
  clear h1
  cases h3 : pairsB s.sav 6 9
  ·have HP := jD (sessB_sav h3)
   have H3 := jD h3
   clear h3
   go_enter Tryz.func91, Tryz.ntmps91
   go_wp2_with fail
   refine (listFits_any _ s.set 9 6 _ (L1.out.step B0.out) (HW.out.below B0.out) (by omega)).mono ?_
   rw [H1.out]
   rintro e w3 ⟨rfl, hb3⟩
   have B1 := jD (bel_add' B0.out hb3 B0.out.size)
   have S1 := jD (S0.out.below hb3 S0.out.lt)
   have y0 := S1.out.cell (j := 3) (by simp)
   simp only [gCZ, gCS] at y0
   clear hb3
   go_wp2_with fail
   refine (listFits_any _ s.sav 9 6 _ (L3.out.step B1.out) (HW.out.below B1.out) (by omega)).mono ?_
   rw [H3.out]
   rintro e w4 ⟨rfl, hb4⟩
   have B2 := jD (bel_add' B1.out hb4 B1.out.size)
   have S2 := jD (S1.out.below hb4 S1.out.lt)
   have y1 := S2.out.cell (j := 2) (by simp)
   simp only [gCZ, gCS] at y1
   clear hb4
   go_wp2
   go_ret
   exact ⟨by rw [HP.out]; rfl, B2.out⟩
  have H3 := jD h3
  clear h3
  cases h2 : pairsB s.prep 6 11
  ·have HP := jD (sessB_prep h2)
   have H2 := jD h2
   clear h2
   go_enter Tryz.func91, Tryz.ntmps91
   go_wp2_with fail
   refine (listFits_any _ s.set 9 6 _ (L1.out.step B0.out) (HW.out.below B0.out) (by omega)).mono ?_
   rw [H1.out]
   rintro e w3 ⟨rfl, hb3⟩
   have B1 := jD (bel_add' B0.out hb3 B0.out.size)
   have S1 := jD (S0.out.below hb3 S0.out.lt)
   have y0 := S1.out.cell (j := 3) (by simp)
   simp only [gCZ, gCS] at y0
   clear hb3
   go_wp2_with fail
   refine (listFits_any _ s.sav 9 6 _ (L3.out.step B1.out) (HW.out.below B1.out) (by omega)).mono ?_
   rw [H3.out]
   rintro e w4 ⟨rfl, hb4⟩
   have B2 := jD (bel_add' B1.out hb4 B1.out.size)
   have S2 := jD (S1.out.below hb4 S1.out.lt)
   have y1 := S2.out.cell (j := 2) (by simp)
   simp only [gCZ, gCS] at y1
   clear hb4
   go_wp2_with fail
   refine (listFits_any _ s.prep 11 6 _ (L2.out.step B2.out) (HW.out.below B2.out) (by omega)).mono ?_
   rw [H2.out]
   rintro e w5 ⟨rfl, hb5⟩
   have B3 := jD (bel_add' B2.out hb5 B2.out.size)
   have S3 := jD (S2.out.below hb5 S2.out.lt)
   have y2 := S3.out.cell (j := 4) (by simp)
   simp only [gCZ, gCS] at y2
   clear hb5
   go_wp2
   go_ret
   exact ⟨by rw [HP.out]; rfl, B3.out⟩
  have H2 := jD h2
  clear h2
  cases h4 : pairsB s.wr 100 10
  ·have HP := jD (sessB_wr h4)
   have H4 := jD h4
   clear h4
   go_enter Tryz.func91, Tryz.ntmps91
   go_wp2_with fail
   refine (listFits_any _ s.set 9 6 _ (L1.out.step B0.out) (HW.out.below B0.out) (by omega)).mono ?_
   rw [H1.out]
   rintro e w3 ⟨rfl, hb3⟩
   have B1 := jD (bel_add' B0.out hb3 B0.out.size)
   have S1 := jD (S0.out.below hb3 S0.out.lt)
   have y0 := S1.out.cell (j := 3) (by simp)
   simp only [gCZ, gCS] at y0
   clear hb3
   go_wp2_with fail
   refine (listFits_any _ s.sav 9 6 _ (L3.out.step B1.out) (HW.out.below B1.out) (by omega)).mono ?_
   rw [H3.out]
   rintro e w4 ⟨rfl, hb4⟩
   have B2 := jD (bel_add' B1.out hb4 B1.out.size)
   have S2 := jD (S1.out.below hb4 S1.out.lt)
   have y1 := S2.out.cell (j := 2) (by simp)
   simp only [gCZ, gCS] at y1
   clear hb4
   go_wp2_with fail
   refine (listFits_any _ s.prep 11 6 _ (L2.out.step B2.out) (HW.out.below B2.out) (by omega)).mono ?_
   rw [H2.out]
   rintro e w5 ⟨rfl, hb5⟩
   have B3 := jD (bel_add' B2.out hb5 B2.out.size)
   have S3 := jD (S2.out.below hb5 S2.out.lt)
   have y2 := S3.out.cell (j := 4) (by simp)
   simp only [gCZ, gCS] at y2
   clear hb5
   go_wp2_with fail
   refine (listFits_any _ s.wr 10 100 _ (L4.out.step B3.out) (HW.out.below B3.out) (by omega)).mono ?_
   rw [H4.out]
   rintro e w6 ⟨rfl, hb6⟩
   have B4 := jD (bel_add' B3.out hb6 B3.out.size)
   have S4 := jD (S3.out.below hb6 S3.out.lt)
   have y3 := S4.out.cell (j := 0) (by simp)
   simp only [gCZ, gCS] at y3
   clear hb6
   go_wp2
   go_ret
   exact ⟨by rw [HP.out]; rfl, B4.out⟩
  have H4 := jD h4
  clear h4
  have HP := jD (HG.out H1.out H2.out H3.out H4.out)
  go_enter Tryz.func91, Tryz.ntmps91
  go_wp2_with fail
  refine (listFits_any _ s.set 9 6 _ (L1.out.step B0.out) (HW.out.below B0.out) (by omega)).mono ?_
  rw [H1.out]
  rintro e w3 ⟨rfl, hb3⟩
  have B1 := jD (bel_add' B0.out hb3 B0.out.size)
  have S1 := jD (S0.out.below hb3 S0.out.lt)
  have y0 := S1.out.cell (j := 3) (by simp)
  simp only [gCZ, gCS] at y0
  clear hb3
  go_wp2_with fail
  refine (listFits_any _ s.sav 9 6 _ (L3.out.step B1.out) (HW.out.below B1.out) (by omega)).mono ?_
  rw [H3.out]
  rintro e w4 ⟨rfl, hb4⟩
  have B2 := jD (bel_add' B1.out hb4 B1.out.size)
  have S2 := jD (S1.out.below hb4 S1.out.lt)
  have y1 := S2.out.cell (j := 2) (by simp)
  simp only [gCZ, gCS] at y1
  clear hb4
  go_wp2_with fail
  refine (listFits_any _ s.prep 11 6 _ (L2.out.step B2.out) (HW.out.below B2.out) (by omega)).mono ?_
  rw [H2.out]
  rintro e w5 ⟨rfl, hb5⟩
  have B3 := jD (bel_add' B2.out hb5 B2.out.size)
  have S3 := jD (S2.out.below hb5 S2.out.lt)
  have y2 := S3.out.cell (j := 4) (by simp)
  simp only [gCZ, gCS] at y2
  clear hb5
  go_wp2_with fail
  refine (listFits_any _ s.wr 10 100 _ (L4.out.step B3.out) (HW.out.below B3.out) (by omega)).mono ?_
  rw [H4.out]
  rintro e w6 ⟨rfl, hb6⟩
  have B4 := jD (bel_add' B3.out hb6 B3.out.size)
  have S4 := jD (S3.out.below hb6 S3.out.lt)
  have y3 := S4.out.cell (j := 0) (by simp)
  simp only [gCZ, gCS] at y3
  clear hb6
  go_wp2
  go_ret
  exact ⟨by rw [HP.out]; rfl, B4.out⟩
 have e1 : (s.st != 1) = true := bne_iff_ne.2 hs1
 have e2 : decide ((0 : Int) < (s.wr.length : Int)) = false := decide_eq_false (fun h => h6 ⟨hs1, by omega⟩)
 have e3 : decide (0 < s.wr.length) = false := decide_eq_false (fun h => h6 ⟨hs1, h⟩)
 by_cases hs0 : s.st = 0
 ·have e4 : (s.st == 0) = true := beq_iff_eq.2 hs0
  have e5 : decide ((0 : Int) < (s.sav.length : Int)) = false := decide_eq_false (fun h => h5 ⟨hs0, by omega⟩)
  have e6 : decide (0 < s.sav.length) = false := decide_eq_false (fun h => h5 ⟨hs0, h⟩)
  clear h5 h6 hst hs1 hs0
  cases h1 : pairsB s.set 6 9
  ·have HP := jD (sessB_set h1)
   have H1 := jD h1
   clear h1
   go_enter Tryz.func91, Tryz.ntmps91
   go_wp2_with fail
   refine (listFits_any _ s.set 9 6 _ (L1.out.step B0.out) (HW.out.below B0.out) (by omega)).mono ?_
   rw [H1.out]
   rintro e w3 ⟨rfl, hb3⟩
   have B1 := jD (bel_add' B0.out hb3 B0.out.size)
   have S1 := jD (S0.out.below hb3 S0.out.lt)
   have y0 := S1.out.cell (j := 3) (by simp)
   simp only [gCZ, gCS] at y0
   clear hb3
   go_wp2
   go_ret
   exact ⟨by rw [HP.out]; rfl, B1.out⟩
  have H1 := jD h1
  clear h1
  cases h3 : pairsB s.sav 6 9
  ·have HP := jD (sessB_sav h3)
   have H3 := jD h3
   clear h3
   go_enter Tryz.func91, Tryz.ntmps91
   go_wp2_with fail
   refine (listFits_any _ s.set 9 6 _ (L1.out.step B0.out) (HW.out.below B0.out) (by omega)).mono ?_
   rw [H1.out]
   rintro e w3 ⟨rfl, hb3⟩
   have B1 := jD (bel_add' B0.out hb3 B0.out.size)
   have S1 := jD (S0.out.below hb3 S0.out.lt)
   have y0 := S1.out.cell (j := 3) (by simp)
   simp only [gCZ, gCS] at y0
   clear hb3
   go_wp2_with fail
   refine (listFits_any _ s.sav 9 6 _ (L3.out.step B1.out) (HW.out.below B1.out) (by omega)).mono ?_
   rw [H3.out]
   rintro e w4 ⟨rfl, hb4⟩
   have B2 := jD (bel_add' B1.out hb4 B1.out.size)
   have S2 := jD (S1.out.below hb4 S1.out.lt)
   have y1 := S2.out.cell (j := 2) (by simp)
   simp only [gCZ, gCS] at y1
   clear hb4
   go_wp2
   go_ret
   exact ⟨by rw [HP.out]; rfl, B2.out⟩
  have H3 := jD h3
  clear h3
  cases h2 : pairsB s.prep 6 11
  ·have HP := jD (sessB_prep h2)
   have H2 := jD h2
   clear h2
   go_enter Tryz.func91, Tryz.ntmps91
   go_wp2_with fail
   refine (listFits_any _ s.set 9 6 _ (L1.out.step B0.out) (HW.out.below B0.out) (by omega)).mono ?_
   rw [H1.out]
   rintro e w3 ⟨rfl, hb3⟩
   have B1 := jD (bel_add' B0.out hb3 B0.out.size)
   have S1 := jD (S0.out.below hb3 S0.out.lt)
   have y0 := S1.out.cell (j := 3) (by simp)
   simp only [gCZ, gCS] at y0
   clear hb3
   go_wp2_with fail
   refine (listFits_any _ s.sav 9 6 _ (L3.out.step B1.out) (HW.out.below B1.out) (by omega)).mono ?_
   rw [H3.out]
   rintro e w4 ⟨rfl, hb4⟩
   have B2 := jD (bel_add' B1.out hb4 B1.out.size)
   have S2 := jD (S1.out.below hb4 S1.out.lt)
   have y1 := S2.out.cell (j := 2) (by simp)
   simp only [gCZ, gCS] at y1
   clear hb4
   go_wp2_with fail
   refine (listFits_any _ s.prep 11 6 _ (L2.out.step B2.out) (HW.out.below B2.out) (by omega)).mono ?_
   rw [H2.out]
   rintro e w5 ⟨rfl, hb5⟩
   have B3 := jD (bel_add' B2.out hb5 B2.out.size)
   have S3 := jD (S2.out.below hb5 S2.out.lt)
   have y2 := S3.out.cell (j := 4) (by simp)
   simp only [gCZ, gCS] at y2
   clear hb5
   go_wp2
   go_ret
   exact ⟨by rw [HP.out]; rfl, B3.out⟩
  have H2 := jD h2
  clear h2
  cases h4 : pairsB s.wr 100 10
  ·have HP := jD (sessB_wr h4)
   have H4 := jD h4
   clear h4
   go_enter Tryz.func91, Tryz.ntmps91
   go_wp2_with fail
   refine (listFits_any _ s.set 9 6 _ (L1.out.step B0.out) (HW.out.below B0.out) (by omega)).mono ?_
   rw [H1.out]
   rintro e w3 ⟨rfl, hb3⟩
   have B1 := jD (bel_add' B0.out hb3 B0.out.size)
   have S1 := jD (S0.out.below hb3 S0.out.lt)
   have y0 := S1.out.cell (j := 3) (by simp)
   simp only [gCZ, gCS] at y0
   clear hb3
   go_wp2_with fail
   refine (listFits_any _ s.sav 9 6 _ (L3.out.step B1.out) (HW.out.below B1.out) (by omega)).mono ?_
   rw [H3.out]
   rintro e w4 ⟨rfl, hb4⟩
   have B2 := jD (bel_add' B1.out hb4 B1.out.size)
   have S2 := jD (S1.out.below hb4 S1.out.lt)
   have y1 := S2.out.cell (j := 2) (by simp)
   simp only [gCZ, gCS] at y1
   clear hb4
   go_wp2_with fail
   refine (listFits_any _ s.prep 11 6 _ (L2.out.step B2.out) (HW.out.below B2.out) (by omega)).mono ?_
   rw [H2.out]
   rintro e w5 ⟨rfl, hb5⟩
   have B3 := jD (bel_add' B2.out hb5 B2.out.size)
   have S3 := jD (S2.out.below hb5 S2.out.lt)
   have y2 := S3.out.cell (j := 4) (by simp)
   simp only [gCZ, gCS] at y2
   clear hb5
   go_wp2_with fail
   refine (listFits_any _ s.wr 10 100 _ (L4.out.step B3.out) (HW.out.below B3.out) (by omega)).mono ?_
   rw [H4.out]
   rintro e w6 ⟨rfl, hb6⟩
   have B4 := jD (bel_add' B3.out hb6 B3.out.size)
   have S4 := jD (S3.out.below hb6 S3.out.lt)
   have y3 := S4.out.cell (j := 0) (by simp)
   simp only [gCZ, gCS] at y3
   clear hb6
   go_wp2
   go_ret
   exact ⟨by rw [HP.out]; rfl, B4.out⟩
  have H4 := jD h4
  clear h4
  have HP := jD (HG.out H1.out H2.out H3.out H4.out)
  go_enter Tryz.func91, Tryz.ntmps91
  go_wp2_with fail
  refine (listFits_any _ s.set 9 6 _ (L1.out.step B0.out) (HW.out.below B0.out) (by omega)).mono ?_
  rw [H1.out]
  rintro e w3 ⟨rfl, hb3⟩
  have B1 := jD (bel_add' B0.out hb3 B0.out.size)
  have S1 := jD (S0.out.below hb3 S0.out.lt)
  have y0 := S1.out.cell (j := 3) (by simp)
  simp only [gCZ, gCS] at y0
  clear hb3
  go_wp2_with fail
  refine (listFits_any _ s.sav 9 6 _ (L3.out.step B1.out) (HW.out.below B1.out) (by omega)).mono ?_
  rw [H3.out]
  rintro e w4 ⟨rfl, hb4⟩
  have B2 := jD (bel_add' B1.out hb4 B1.out.size)
  have S2 := jD (S1.out.below hb4 S1.out.lt)
  have y1 := S2.out.cell (j := 2) (by simp)
  simp only [gCZ, gCS] at y1
  clear hb4
  go_wp2_with fail
  refine (listFits_any _ s.prep 11 6 _ (L2.out.step B2.out) (HW.out.below B2.out) (by omega)).mono ?_
  rw [H2.out]
  rintro e w5 ⟨rfl, hb5⟩
  have B3 := jD (bel_add' B2.out hb5 B2.out.size)
  have S3 := jD (S2.out.below hb5 S2.out.lt)
  have y2 := S3.out.cell (j := 4) (by simp)
  simp only [gCZ, gCS] at y2
  clear hb5
  go_wp2_with fail
  refine (listFits_any _ s.wr 10 100 _ (L4.out.step B3.out) (HW.out.below B3.out) (by omega)).mono ?_
  rw [H4.out]
  rintro e w6 ⟨rfl, hb6⟩
  have B4 := jD (bel_add' B3.out hb6 B3.out.size)
  have S4 := jD (S3.out.below hb6 S3.out.lt)
  have y3 := S4.out.cell (j := 0) (by simp)
  simp only [gCZ, gCS] at y3
  clear hb6
  go_wp2
  go_ret
  exact ⟨by rw [HP.out]; rfl, B4.out⟩
 ·have e4 : (s.st == 0) = false := beq_eq_false_iff_ne.2 hs0
  clear h5 h6 hst hs1 hs0
  cases h1 : pairsB s.set 6 9
  ·have HP := jD (sessB_set h1)
   have H1 := jD h1
   clear h1
   go_enter Tryz.func91, Tryz.ntmps91
   go_wp2_with fail
   refine (listFits_any _ s.set 9 6 _ (L1.out.step B0.out) (HW.out.below B0.out) (by omega)).mono ?_
   rw [H1.out]
   rintro e w3 ⟨rfl, hb3⟩
   have B1 := jD (bel_add' B0.out hb3 B0.out.size)
   have S1 := jD (S0.out.below hb3 S0.out.lt)
   have y0 := S1.out.cell (j := 3) (by simp)
   simp only [gCZ, gCS] at y0
   clear hb3
   go_wp2
   go_ret
   exact ⟨by rw [HP.out]; rfl, B1.out⟩
  have H1 := jD h1
  clear h1
  cases h3 : pairsB s.sav 6 9
  ·have HP := jD (sessB_sav h3)
   have H3 := jD h3
   clear h3
   go_enter Tryz.func91, Tryz.ntmps91
   go_wp2_with fail
   refine (listFits_any _ s.set 9 6 _ (L1.out.step B0.out) (HW.out.below B0.out) (by omega)).mono ?_
   rw [H1.out]
   rintro e w3 ⟨rfl, hb3⟩
   have B1 := jD (bel_add' B0.out hb3 B0.out.size)
   have S1 := jD (S0.out.below hb3 S0.out.lt)
   have y0 := S1.out.cell (j := 3) (by simp)
   simp only [gCZ, gCS] at y0
   clear hb3
   go_wp2_with fail
   refine (listFits_any _ s.sav 9 6 _ (L3.out.step B1.out) (HW.out.below B1.out) (by omega)).mono ?_
   rw [H3.out]
   rintro e w4 ⟨rfl, hb4⟩
   have B2 := jD (bel_add' B1.out hb4 B1.out.size)
   have S2 := jD (S1.out.below hb4 S1.out.lt)
   have y1 := S2.out.cell (j := 2) (by simp)
   simp only [gCZ, gCS] at y1
   clear hb4
   go_wp2
   go_ret
   exact ⟨by rw [HP.out]; rfl, B2.out⟩
  have H3 := jD h3
  clear h3
  cases h2 : pairsB s.prep 6 11
  ·have HP := jD (sessB_prep h2)
   have H2 := jD h2
   clear h2
   go_enter Tryz.func91, Tryz.ntmps91
   go_wp2_with fail
   refine (listFits_any _ s.set 9 6 _ (L1.out.step B0.out) (HW.out.below B0.out) (by omega)).mono ?_
   rw [H1.out]
   rintro e w3 ⟨rfl, hb3⟩
   have B1 := jD (bel_add' B0.out hb3 B0.out.size)
   have S1 := jD (S0.out.below hb3 S0.out.lt)
   have y0 := S1.out.cell (j := 3) (by simp)
   simp only [gCZ, gCS] at y0
   clear hb3
   go_wp2_with fail
   refine (listFits_any _ s.sav 9 6 _ (L3.out.step B1.out) (HW.out.below B1.out) (by omega)).mono ?_
   rw [H3.out]
   rintro e w4 ⟨rfl, hb4⟩
   have B2 := jD (bel_add' B1.out hb4 B1.out.size)
   have S2 := jD (S1.out.below hb4 S1.out.lt)
   have y1 := S2.out.cell (j := 2) (by simp)
   simp only [gCZ, gCS] at y1
   clear hb4
   go_wp2_with fail
   refine (listFits_any _ s.prep 11 6 _ (L2.out.step B2.out) (HW.out.below B2.out) (by omega)).mono ?_
   rw [H2.out]
   rintro e w5 ⟨rfl, hb5⟩
   have B3 := jD (bel_add' B2.out hb5 B2.out.size)
   have S3 := jD (S2.out.below hb5 S2.out.lt)
   have y2 := S3.out.cell (j := 4) (by simp)
   simp only [gCZ, gCS] at y2
   clear hb5
   go_wp2
   go_ret
   exact ⟨by rw [HP.out]; rfl, B3.out⟩
  have H2 := jD h2
  clear h2
  cases h4 : pairsB s.wr 100 10
  ·have HP := jD (sessB_wr h4)
   have H4 := jD h4
   clear h4
   go_enter Tryz.func91, Tryz.ntmps91
   go_wp2_with fail
   refine (listFits_any _ s.set 9 6 _ (L1.out.step B0.out) (HW.out.below B0.out) (by omega)).mono ?_
   rw [H1.out]
   rintro e w3 ⟨rfl, hb3⟩
   have B1 := jD (bel_add' B0.out hb3 B0.out.size)
   have S1 := jD (S0.out.below hb3 S0.out.lt)
   have y0 := S1.out.cell (j := 3) (by simp)
   simp only [gCZ, gCS] at y0
   clear hb3
   go_wp2_with fail
   refine (listFits_any _ s.sav 9 6 _ (L3.out.step B1.out) (HW.out.below B1.out) (by omega)).mono ?_
   rw [H3.out]
   rintro e w4 ⟨rfl, hb4⟩
   have B2 := jD (bel_add' B1.out hb4 B1.out.size)
   have S2 := jD (S1.out.below hb4 S1.out.lt)
   have y1 := S2.out.cell (j := 2) (by simp)
   simp only [gCZ, gCS] at y1
   clear hb4
   go_wp2_with fail
   refine (listFits_any _ s.prep 11 6 _ (L2.out.step B2.out) (HW.out.below B2.out) (by omega)).mono ?_
   rw [H2.out]
   rintro e w5 ⟨rfl, hb5⟩
   have B3 := jD (bel_add' B2.out hb5 B2.out.size)
   have S3 := jD (S2.out.below hb5 S2.out.lt)
   have y2 := S3.out.cell (j := 4) (by simp)
   simp only [gCZ, gCS] at y2
   clear hb5
   go_wp2_with fail
   refine (listFits_any _ s.wr 10 100 _ (L4.out.step B3.out) (HW.out.below B3.out) (by omega)).mono ?_
   rw [H4.out]
   rintro e w6 ⟨rfl, hb6⟩
   have B4 := jD (bel_add' B3.out hb6 B3.out.size)
   have S4 := jD (S3.out.below hb6 S3.out.lt)
   have y3 := S4.out.cell (j := 0) (by simp)
   simp only [gCZ, gCS] at y3
   clear hb6
   go_wp2
   go_ret
   exact ⟨by rw [HP.out]; rfl, B4.out⟩
  have H4 := jD h4
  clear h4
  have HP := jD (HG.out H1.out H2.out H3.out H4.out)
  go_enter Tryz.func91, Tryz.ntmps91
  go_wp2_with fail
  refine (listFits_any _ s.set 9 6 _ (L1.out.step B0.out) (HW.out.below B0.out) (by omega)).mono ?_
  rw [H1.out]
  rintro e w3 ⟨rfl, hb3⟩
  have B1 := jD (bel_add' B0.out hb3 B0.out.size)
  have S1 := jD (S0.out.below hb3 S0.out.lt)
  have y0 := S1.out.cell (j := 3) (by simp)
  simp only [gCZ, gCS] at y0
  clear hb3
  go_wp2_with fail
  refine (listFits_any _ s.sav 9 6 _ (L3.out.step B1.out) (HW.out.below B1.out) (by omega)).mono ?_
  rw [H3.out]
  rintro e w4 ⟨rfl, hb4⟩
  have B2 := jD (bel_add' B1.out hb4 B1.out.size)
  have S2 := jD (S1.out.below hb4 S1.out.lt)
  have y1 := S2.out.cell (j := 2) (by simp)
  simp only [gCZ, gCS] at y1
  clear hb4
  go_wp2_with fail
  refine (listFits_any _ s.prep 11 6 _ (L2.out.step B2.out) (HW.out.below B2.out) (by omega)).mono ?_
  rw [H2.out]
  rintro e w5 ⟨rfl, hb5⟩
  have B3 := jD (bel_add' B2.out hb5 B2.out.size)
  have S3 := jD (S2.out.below hb5 S2.out.lt)
  have y2 := S3.out.cell (j := 4) (by simp)
  simp only [gCZ, gCS] at y2
  clear hb5
  go_wp2_with fail
  refine (listFits_any _ s.wr 10 100 _ (L4.out.step B3.out) (HW.out.below B3.out) (by omega)).mono ?_
  rw [H4.out]
  rintro e w6 ⟨rfl, hb6⟩
  have B4 := jD (bel_add' B3.out hb6 B3.out.size)
  have S4 := jD (S3.out.below hb6 S3.out.lt)
  have y3 := S4.out.cell (j := 0) (by simp)
  simp only [gCZ, gCS] at y3
  clear hb6
  go_wp2
  go_ret
  exact ⟨by rw [HP.out]; rfl, B4.out⟩
def checkW (W : Wd) : Int := if worldB W then 0 else 5
theorem checkW_no {W : Wd} (h : worldB W = false) : checkW W = 5 := by unfold checkW; rw [h]; rfl
theorem checkW_ok {W : Wd} (h : worldB W = true) : checkW W = 0 := by unfold checkW; rw [h]; rfl
def ChkRel (w : World) (W : Wd) (r s : Value) (i : Nat) (wr : World) : Prop := (∀ j (hj : j < W.ss.length), j < i → sessB W.ss[j] = true) ∧ AllBox w r s wr ∧ Below w.heap.size w wr
theorem worldB_fit {W : Wd} (h1 : pairsB W.rows 100 10 = true) (h2 : W.ss.length ≤ 8) (h3 : ∀ i (hi : i < W.ss.length), sessB W.ss[i] = true) : worldB W = (cntOk W && decide ((allL W).length ≤ 100)) := by
 have hall : W.ss.all sessB = true := by
  rw [List.all_eq_true]; intro s hs
  obtain ⟨i, hi, rfl⟩ := List.getElem_of_mem hs
  exact h3 i hi
 rw [cntOk_apart (fun i hi => (pairsB_rising (sessB_iff.1 (h3 i hi)).wr).1)]
 unfold worldB
 rw [h1, decide_eq_true h2, hall]; rfl
set_option maxHeartbeats 4000000 in
theorem backCheck_any (r s : Value) (W : Wd) (w : World) (hW : Wld w w.heap.size r s W) (hWo : Words w) :
  Calls Tryz.prog 62 #[.agg #[r, s]] w fun e w' => e = .returned (.int .i64 (checkW W)) ∧ Below w.heap.size w w' := by
 have HWW := jD hW
 have HWo := jD hWo
 obtain ⟨hr, hs⟩ := hW
 obtain ⟨A, c, rfl, hc⟩ := hs.form
 obtain ⟨D, d, rfl, hd⟩ := hr.form
 have hby := hs.bytes
 have HS := jD hs
 have HR := jD hr
 clear hs hr hWo
 have b0 : Below w.heap.size w (w.alloc (.cells #[.slice D W.rows.length d, .slice A W.ss.length c] 39)) := (Below.refl _ _).alloc (nL _) _
 have HX := jD (RowTo.whole w #[.slice D W.rows.length d, .slice A W.ss.length c] 39)
 by_cases h8 : W.ss.length ≤ 8
 case neg =>
  have HP := jD (checkW_no (worldB_many h8))
  have hd8 : decide ((8 : Int) < (W.ss.length : Int)) = true := decide_eq_true (by omega)
  have hd8' : decide (8 < W.ss.length) = true := decide_eq_true (by omega)
  go_enter Tryz.func62, Tryz.ntmps62
  go_wp2
  go_ret
  exact ⟨by rw [HP.out]; rfl, b0⟩
 have hd8 : decide ((8 : Int) < (W.ss.length : Int)) = false := decide_eq_false (by omega)
 have hd8' : decide (8 < W.ss.length) = false := decide_eq_false (by omega)
 cases hp : pairsB W.rows 100 10
 ·have HP := jD (checkW_no (worldB_rows hp))
  have HPB := jD hp
  clear hp
  go_enter Tryz.func62, Tryz.ntmps62
  go_wp2_with fail
  refine (listFits_any _ W.rows 10 100 _ (HR.out.step b0) (HWo.out.below b0) (by omega)).mono ?_
  rw [HPB.out]
  rintro e w1 ⟨rfl, hb1⟩
  go_wp2
  go_ret
  exact ⟨by rw [HP.out]; rfl, bel_add' b0 hb1 b0.size⟩
 have HPB := jD hp
 clear hp
 go_enter Tryz.func62, Tryz.ntmps62
 go_wp2_with fail
 refine (listFits_any _ W.rows 10 100 _ (HR.out.step b0) (HWo.out.below b0) (by omega)).mono ?_
 rw [HPB.out]
 rintro e w1 ⟨rfl, hb1⟩
 have HX1 := HX.out.below hb1 HX.out.lt
 have x1 := HX1.cell (j := 1) (by simp)
 simp only [gCZ, gCS] at x1
 have HXX := jD HX1
 have HBB := jD (bel_add' b0 hb1 b0.size)
 clear HX1 HX hb1
 go_wp2
 clear x1
 go_loopw [18] (fun i wr => ∃ k : Nat, k ≤ W.ss.length ∧ i = .int .i64 k ∧ ChkRel w W (.slice D W.rows.length d) (.slice A W.ss.length c) k wr) (fun i _ => W.ss.length - (intOf i).toNat)
 case atStart => exact ⟨0, by omega, rfl, fun j hj h => by omega, HXX.out, HBB.out⟩
 case round =>
  clear HXX HBB b0
  obtain ⟨i, hi, rfl, hok, hbox, bel⟩ := hrel
  have x0 := hbox.cell (j := 0) (by simp)
  have x1 := hbox.cell (j := 1) (by simp)
  simp only [gCZ, gCS] at x0 x1
  have hxl := hbox.lt
  have HOK := jD hok
  have HX := jD hbox
  have HB := jD bel
  clear hok hbox bel
  by_cases hlt : i < W.ss.length
  ·obtain ⟨b, off, v1, v2, v3, v4, rfl, hb, hses⟩ := HS.out.pt hlt
   have HW1 := jD (fun h => worldB_sess (W := W) hlt h)
   have HOK1 := jD (fun (h : sessB W.ss[i] = true) => (fun j hj hji => if e : j = i then by subst e; exact h else HOK.out j hj (by omega) : ∀ j (hj : j < W.ss.length), j < i + 1 → sessB W.ss[j] = true))
   generalize hsk : W.ss[i] = s at *
   obtain ⟨d0, d1, d2, d3, d4, l1, l2, l3, l4⟩ := hses.keep (w' := wr) hb (nL _) fun p hp => HB.out.cell hp
   obtain ⟨A1, c1, rfl, _⟩ := l1.form
   obtain ⟨A2, c2, rfl, _⟩ := l2.form
   obtain ⟨A3, c3, rfl, _⟩ := l3.form
   obtain ⟨A4, c4, rfl, _⟩ := l4.form
   have HL := jD hses
   clear l1 l2 l3 l4 hses hsk
   have B0 := jD (HB.out.alloc HB.out.size (.cells #[.int .i64 s.st, .slice A1 s.set.length c1, .slice A2 s.prep.length c2, .slice A3 s.sav.length c3, .slice A4 s.wr.length c4] 115))
   have X0 := jD (RowTo.alloc HX.out (.cells #[.int .i64 s.st, .slice A1 s.set.length c1, .slice A2 s.prep.length c2, .slice A3 s.sav.length c3, .slice A4 s.wr.length c4] 115))
   cases hb : sessB s
   ·have HP := jD (checkW_no (HW1.out hb))
    have HQ := jD hb
    clear hb
    go_wp2_with fail
    refine (sessionFits_any s _ _ _ _ _ (HL.out.l1.step B0.out) (HL.out.l2.step B0.out) (HL.out.l3.step B0.out) (HL.out.l4.step B0.out) (HWo.out.below B0.out)).mono ?_
    rw [HQ.out]
    rintro e w2 ⟨rfl, hb2⟩
    go_wp2
    go_ret
    exact ⟨by rw [HP.out]; rfl, bel_add' B0.out hb2 B0.out.size⟩
   ·have HT := jD (HOK1.out hb)
    have HQ := jD hb
    clear hb
    go_wp2_with fail
    refine (sessionFits_any s _ _ _ _ _ (HL.out.l1.step B0.out) (HL.out.l2.step B0.out) (HL.out.l3.step B0.out) (HL.out.l4.step B0.out) (HWo.out.below B0.out)).mono ?_
    rw [HQ.out]
    rintro e w2 ⟨rfl, hb2⟩
    have HB2 := jD (bel_add' B0.out hb2 B0.out.size)
    have HX2 := jD (X0.out.below hb2 X0.out.lt)
    clear hb2
    go_wp2
    go_roundw
    case rel => exact ⟨i + 1, by omega, by go_num, HT.out, HX2.out, HB2.out⟩
    case measure => simp [intOf]; omega
  ·have hall : ∀ j (hj : j < W.ss.length), sessB W.ss[j] = true := fun j hj => HOK.out j hj (by omega)
   have HL := jD (worldB_fit HPB.out h8 hall)
   have hpr := pairsB_rising HPB.out
   have hwr : ∀ j (hj : j < W.ss.length), W.ss[j].wr.length ≤ 100 := fun j hj => (pairsB_rising (sessB_iff.1 (hall j hj)).wr).2.1
   have HF := jD (fun (w9 : World) (h9 : Wld w9 w9.heap.size (.slice D W.rows.length d) (.slice A W.ss.length c) W) => rowsFit_any _ _ W w9 h9 hpr.2.1 hpr.1 h8 hwr)
   clear hall hpr hwr
   cases hf : (cntOk W && decide ((allL W).length ≤ 100))
   ·have HP := jD (checkW_no (HL.out.trans hf))
    have HQ := jD hf
    clear hf
    go_wp2_with fail
    refine (HF.out _ (HWW.out.step HB.out)).mono ?_
    rw [HQ.out]
    rintro e w2 ⟨rfl, hb2⟩
    go_wp2
    go_ret
    exact ⟨by rw [HP.out]; rfl, bel_add' HB.out hb2 HB.out.size⟩
   ·have HP := jD (checkW_ok (HL.out.trans hf))
    have HQ := jD hf
    clear hf
    go_wp2_with fail
    refine (HF.out _ (HWW.out.step HB.out)).mono ?_
    rw [HQ.out]
    rintro e w2 ⟨rfl, hb2⟩
    go_wp2
    go_ret
    exact ⟨by rw [HP.out]; rfl, bel_add' HB.out hb2 HB.out.size⟩
set_option maxHeartbeats 2000000 in
theorem checkDo_any (r s : Value) (W : Wd) (i k : Int) (key val : ByteArray) (w : World) (hW : Wld w w.heap.size r s W) (hWo : Words w) (hkz : key.size ≤ maxLen) (hvz : val.size ≤ maxLen) :
  Calls Tryz.prog 43 #[.agg #[r, s], .int .i64 i, .agg #[.int .i64 k, .string key, .string val]] w fun e w' => e = .returned (.int .i64 (doE W i k key val)) ∧ Below w.heap.size w w' := by
 obtain ⟨A, c, rfl, hc⟩ := hW.sess.form
 obtain ⟨D, d, rfl, hd⟩ := hW.rows.form
 have b0 : Below w.heap.size w ((w.alloc (.cells #[.slice D W.rows.length d, .slice A W.ss.length c] 39)).alloc (.cells #[.int .i64 k, .string key, .string val] 41)) := ((Below.refl _ _).alloc (nL _) _).alloc (by simp) _
 have X0 : RowTo ((w.alloc (.cells #[.slice D W.rows.length d, .slice A W.ss.length c] 39)).alloc (.cells #[.int .i64 k, .string key, .string val] 41)) w.heap.size 39 2 [.slice D W.rows.length d, .slice A W.ss.length c] := (RowTo.whole w #[.slice D W.rows.length d, .slice A W.ss.length c] 39).alloc _
 have Y0 : RowTo ((w.alloc (.cells #[.slice D W.rows.length d, .slice A W.ss.length c] 39)).alloc (.cells #[.int .i64 k, .string key, .string val] 41)) (w.heap.size + 1) 41 3 [.int .i64 k, .string key, .string val] := by
  have := RowTo.whole (w.alloc (.cells #[.slice D W.rows.length d, .slice A W.ss.length c] 39)) #[.int .i64 k, .string key, .string val] 41
  simpa using this
 have HC := jD (backCheck_any _ _ W _ (hW.step b0) (hWo.below b0))
 have HWo := jD hWo
 have B0 := jD b0
 have HX0 := jD X0
 have HY0 := jD Y0
 clear hW hWo b0 X0 Y0
 cases hb : worldB W
 ·have HD := jD (show doE W i k key val = 5 by unfold doE; rw [if_pos hb])
  have HB := jD (checkW_no hb)
  clear hb
  go_enter Tryz.func43, Tryz.ntmps43
  go_wp2_with fail
  refine HC.out.mono ?_
  rw [HB.out]
  rintro e w1 ⟨rfl, hb1⟩
  have B1 := jD (bel_add' B0.out hb1 B0.out.size)
  clear hb1
  go_wp2
  go_ret
  exact ⟨by rw [HD.out]; rfl, B1.out⟩
 have HB := jD (checkW_ok hb)
 have hcase : (i < 0 ∧ doE W i k key val = 6) ∨ (0 ≤ i ∧ (W.ss.length : Int) ≤ i ∧ doE W i k key val = 6) ∨ (0 ≤ i ∧ i < (W.ss.length : Int) ∧ doE W i k key val = checkE k key val) := by
  unfold doE
  rw [if_neg (by rw [hb]; simp)]
  by_cases h1 : i < 0
  ·left; exact ⟨h1, if_pos (.inl h1)⟩
  ·right
   by_cases h2 : (W.ss.length : Int) ≤ i
   ·left; exact ⟨by omega, h2, if_pos (.inr h2)⟩
   ·right; exact ⟨by omega, by omega, if_neg (by omega)⟩
 clear hb
 rcases hcase with ⟨h1, hd⟩ | ⟨h1, h2, hd⟩ | ⟨h1, h2, hd⟩
 ·have HD := jD hd
  have t1 : decide (i < 0) = true := decide_eq_true h1
  clear hd
  go_enter Tryz.func43, Tryz.ntmps43
  go_wp2_with fail
  refine HC.out.mono ?_
  rw [HB.out]
  rintro e w1 ⟨rfl, hb1⟩
  have B1 := jD (bel_add' B0.out hb1 B0.out.size)
  have X1 := HX0.out.below hb1 HX0.out.lt
  have c1 := X1.cell (j := 1) (by simp)
  simp only [gCZ, gCS] at c1
  clear hb1 X1
  go_wp2
  go_ret
  exact ⟨by rw [HD.out]; rfl, B1.out⟩
 ·have HD := jD hd
  have t1 : decide (i < 0) = false := decide_eq_false (by omega)
  have t2 : decide ((W.ss.length : Int) ≤ i) = true := decide_eq_true h2
  clear hd
  go_enter Tryz.func43, Tryz.ntmps43
  go_wp2_with fail
  refine HC.out.mono ?_
  rw [HB.out]
  rintro e w1 ⟨rfl, hb1⟩
  have B1 := jD (bel_add' B0.out hb1 B0.out.size)
  have X1 := HX0.out.below hb1 HX0.out.lt
  have c1 := X1.cell (j := 1) (by simp)
  simp only [gCZ, gCS] at c1
  clear hb1 X1
  go_wp2
  go_ret
  exact ⟨by rw [HD.out]; rfl, B1.out⟩
 ·have HD := jD hd
  have t1 : decide (i < 0) = false := decide_eq_false (by omega)
  have t2 : decide ((W.ss.length : Int) ≤ i) = false := decide_eq_false (by omega)
  clear hd
  go_enter Tryz.func43, Tryz.ntmps43
  go_wp2_with fail
  refine HC.out.mono ?_
  rw [HB.out]
  rintro e w1 ⟨rfl, hb1⟩
  have B1 := jD (bel_add' B0.out hb1 B0.out.size)
  have X1 := HX0.out.below hb1 HX0.out.lt
  have c1 := X1.cell (j := 1) (by simp)
  have Y1 := HY0.out.below hb1 HY0.out.lt
  have y0 := Y1.cell (j := 0) (by simp)
  have y1 := Y1.cell (j := 1) (by simp)
  have y2 := Y1.cell (j := 2) (by simp)
  simp only [gCZ, gCS] at c1 y0 y1 y2
  clear hb1 X1 Y1
  go_wp2_with fail
  refine (check_any k key val _ hkz hvz (HWo.out.below B1.out)).mono ?_
  rintro e w2 ⟨rfl, hb2⟩
  have B2 := jD (bel_add' B1.out hb2 B1.out.size)
  clear hb2
  go_wp2
  go_ret
  exact ⟨by rw [HD.out]; rfl, B2.out⟩
end Go.Proofs.YtpbaobmegomfpabGreatDoor
