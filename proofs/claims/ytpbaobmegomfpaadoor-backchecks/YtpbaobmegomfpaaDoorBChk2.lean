/-
  Walks of back.sessionFits.
-/
import Derived.Test.YtpbaobmegomfpaaDoorBChk
import Derived.Test.YtpbaobmegomfpaaDoorBackM3
namespace Go.Proofs.YtpbaobmegomfpaaDoor
open Go.RowKit
set_option linter.unusedVariables false
set_option linter.unusedSimpArgs false
set_option maxRecDepth 100000

theorem sess_row' {w : World} {v0 v1 v2 v3 v4 : Value} : RowTo (w.alloc (.cells #[v0, v1, v2, v3, v4] 77)) w.heap.size 77 5 [v0, v1, v2, v3, v4] := RowTo.whole w #[v0, v1, v2, v3, v4] 77

set_option maxHeartbeats 4000000 in
theorem sessionFits_any (s : Sess) (v1 v2 v3 v4 : Value) (w : World) (h1 : Lst w w.heap.size v1 s.set) (h2 : Lst w w.heap.size v2 s.prep) (h3 : Lst w w.heap.size v3 s.sav) (h4 : Lst w w.heap.size v4 s.wr) (hW : Words w) :
    Calls Tryd.prog 41 #[.agg #[.int .i64 s.st, v1, v2, v3, v4]] w fun e w' => e = .returned (.bool (sessB s)) ∧ Below w.heap.size w w' := by
  obtain ⟨A1, c1, rfl, _⟩ := h1.form
  obtain ⟨A2, c2, rfl, _⟩ := h2.form
  obtain ⟨A3, c3, rfl, _⟩ := h3.form
  obtain ⟨A4, c4, rfl, _⟩ := h4.form
  have L1 := Lib.hid h1
  have L2 := Lib.hid h2
  have L3 := Lib.hid h3
  have L4 := Lib.hid h4
  have HW := Lib.hid hW
  clear h1 h2 h3 h4 hW
  have B0 := Lib.hid ((Below.refl w.heap.size w).alloc (Nat.le_refl _) (.cells #[.int .i64 s.st, .slice A1 s.set.length c1, .slice A2 s.prep.length c2, .slice A3 s.sav.length c3, .slice A4 s.wr.length c4] 77))
  have S0 := Lib.hid (sess_row' (w := w) (v0 := .int .i64 s.st) (v1 := .slice A1 s.set.length c1) (v2 := .slice A2 s.prep.length c2) (v3 := .slice A3 s.sav.length c3) (v4 := .slice A4 s.wr.length c4))
  by_cases hst : s.st < 0 ∨ 2 < s.st
  · have HP := Lib.hid (sessB_st (s := s) (inB_no (by omega)))
    rcases hst with hst | hst
    · have d1 : decide (s.st < 0) = true := decide_eq_true hst
      go_enter Tryd.func41, Tryd.ntmps41
      go_wp2
      go_ret
      exact ⟨by rw [HP.out]; rfl, B0.out⟩
    · have d1 : decide (s.st < 0) = false := decide_eq_false (by omega)
      have d2 : decide (2 < s.st) = true := decide_eq_true hst
      go_enter Tryd.func41, Tryd.ntmps41
      go_wp2
      go_ret
      exact ⟨by rw [HP.out]; rfl, B0.out⟩
  have d1 : decide (s.st < 0) = false := decide_eq_false (by omega)
  have d2 : decide (2 < s.st) = false := decide_eq_false (by omega)
  have H0 := Lib.hid (show inB 0 s.st 2 = true from inB_yes (by omega))
  by_cases h5 : s.st = 0 ∧ 0 < s.sav.length
  · have HP := Lib.hid (sessB_idle h5.1 h5.2)
    have e1 : (s.st == 0) = true := beq_iff_eq.2 h5.1
    have e2 : decide ((0 : Int) < (s.sav.length : Int)) = true := decide_eq_true (by omega)
    have e3 : decide (0 < s.sav.length) = true := decide_eq_true h5.2
    clear h5 hst
    go_enter Tryd.func41, Tryd.ntmps41
    go_wp2
    go_ret
    exact ⟨by rw [HP.out]; rfl, B0.out⟩
  by_cases h6 : s.st ≠ 1 ∧ 0 < s.wr.length
  · have HP := Lib.hid (sessB_tx h6.1 h6.2)
    have e1 : (s.st != 1) = true := bne_iff_ne.2 h6.1
    have e2 : decide ((0 : Int) < (s.wr.length : Int)) = true := decide_eq_true (by omega)
    have e3 : decide (0 < s.wr.length) = true := decide_eq_true h6.2
    by_cases hs0 : s.st = 0
    · have e4 : (s.st == 0) = true := beq_iff_eq.2 hs0
      have e5 : decide ((0 : Int) < (s.sav.length : Int)) = false := decide_eq_false (fun h => h5 ⟨hs0, by omega⟩)
      have e6 : decide (0 < s.sav.length) = false := decide_eq_false (fun h => h5 ⟨hs0, h⟩)
      clear h5 h6 hst hs0
      go_enter Tryd.func41, Tryd.ntmps41
      go_wp2
      go_ret
      exact ⟨by rw [HP.out]; rfl, B0.out⟩
    · have e4 : (s.st == 0) = false := beq_eq_false_iff_ne.2 hs0
      clear h5 h6 hst hs0
      go_enter Tryd.func41, Tryd.ntmps41
      go_wp2
      go_ret
      exact ⟨by rw [HP.out]; rfl, B0.out⟩
  have HG := Lib.hid (fun a b c d => sessB_ok H0.out a b c d h5 h6)
  by_cases hs1 : s.st = 1
  · have e1 : (s.st != 1) = false := by rw [hs1]; rfl
    have e4 : (s.st == 0) = false := by rw [hs1]; rfl
    clear h5 h6 hst hs1
    cases h1 : pairsB s.set 6 9
    · have HP := Lib.hid (sessB_set h1)
      have H1 := Lib.hid h1
      clear h1
      go_enter Tryd.func41, Tryd.ntmps41
      go_wp2_with fail
      refine (listFits_any _ s.set 9 6 _ (L1.out.step B0.out) (HW.out.below B0.out) (by omega)).mono ?_
      rw [H1.out]
      rintro e w3 ⟨rfl, hb3⟩
      have B1 := Lib.hid (bel_add' B0.out hb3 B0.out.size)
      have S1 := Lib.hid (S0.out.below hb3 S0.out.lt)
      have y0 := S1.out.cell (j := 3) (by simp)
      simp only [List.getElem_cons_zero, List.getElem_cons_succ] at y0
      clear hb3
      go_wp2
      go_ret
      exact ⟨by rw [HP.out]; rfl, B1.out⟩
    have H1 := Lib.hid h1
    clear h1
    cases h3 : pairsB s.sav 6 9
    · have HP := Lib.hid (sessB_sav h3)
      have H3 := Lib.hid h3
      clear h3
      go_enter Tryd.func41, Tryd.ntmps41
      go_wp2_with fail
      refine (listFits_any _ s.set 9 6 _ (L1.out.step B0.out) (HW.out.below B0.out) (by omega)).mono ?_
      rw [H1.out]
      rintro e w3 ⟨rfl, hb3⟩
      have B1 := Lib.hid (bel_add' B0.out hb3 B0.out.size)
      have S1 := Lib.hid (S0.out.below hb3 S0.out.lt)
      have y0 := S1.out.cell (j := 3) (by simp)
      simp only [List.getElem_cons_zero, List.getElem_cons_succ] at y0
      clear hb3
      go_wp2_with fail
      refine (listFits_any _ s.sav 9 6 _ (L3.out.step B1.out) (HW.out.below B1.out) (by omega)).mono ?_
      rw [H3.out]
      rintro e w4 ⟨rfl, hb4⟩
      have B2 := Lib.hid (bel_add' B1.out hb4 B1.out.size)
      have S2 := Lib.hid (S1.out.below hb4 S1.out.lt)
      have y1 := S2.out.cell (j := 2) (by simp)
      simp only [List.getElem_cons_zero, List.getElem_cons_succ] at y1
      clear hb4
      go_wp2
      go_ret
      exact ⟨by rw [HP.out]; rfl, B2.out⟩
    have H3 := Lib.hid h3
    clear h3
    cases h2 : pairsB s.prep 6 11
    · have HP := Lib.hid (sessB_prep h2)
      have H2 := Lib.hid h2
      clear h2
      go_enter Tryd.func41, Tryd.ntmps41
      go_wp2_with fail
      refine (listFits_any _ s.set 9 6 _ (L1.out.step B0.out) (HW.out.below B0.out) (by omega)).mono ?_
      rw [H1.out]
      rintro e w3 ⟨rfl, hb3⟩
      have B1 := Lib.hid (bel_add' B0.out hb3 B0.out.size)
      have S1 := Lib.hid (S0.out.below hb3 S0.out.lt)
      have y0 := S1.out.cell (j := 3) (by simp)
      simp only [List.getElem_cons_zero, List.getElem_cons_succ] at y0
      clear hb3
      go_wp2_with fail
      refine (listFits_any _ s.sav 9 6 _ (L3.out.step B1.out) (HW.out.below B1.out) (by omega)).mono ?_
      rw [H3.out]
      rintro e w4 ⟨rfl, hb4⟩
      have B2 := Lib.hid (bel_add' B1.out hb4 B1.out.size)
      have S2 := Lib.hid (S1.out.below hb4 S1.out.lt)
      have y1 := S2.out.cell (j := 2) (by simp)
      simp only [List.getElem_cons_zero, List.getElem_cons_succ] at y1
      clear hb4
      go_wp2_with fail
      refine (listFits_any _ s.prep 11 6 _ (L2.out.step B2.out) (HW.out.below B2.out) (by omega)).mono ?_
      rw [H2.out]
      rintro e w5 ⟨rfl, hb5⟩
      have B3 := Lib.hid (bel_add' B2.out hb5 B2.out.size)
      have S3 := Lib.hid (S2.out.below hb5 S2.out.lt)
      have y2 := S3.out.cell (j := 4) (by simp)
      simp only [List.getElem_cons_zero, List.getElem_cons_succ] at y2
      clear hb5
      go_wp2
      go_ret
      exact ⟨by rw [HP.out]; rfl, B3.out⟩
    have H2 := Lib.hid h2
    clear h2
    cases h4 : pairsB s.wr 100 10
    · have HP := Lib.hid (sessB_wr h4)
      have H4 := Lib.hid h4
      clear h4
      go_enter Tryd.func41, Tryd.ntmps41
      go_wp2_with fail
      refine (listFits_any _ s.set 9 6 _ (L1.out.step B0.out) (HW.out.below B0.out) (by omega)).mono ?_
      rw [H1.out]
      rintro e w3 ⟨rfl, hb3⟩
      have B1 := Lib.hid (bel_add' B0.out hb3 B0.out.size)
      have S1 := Lib.hid (S0.out.below hb3 S0.out.lt)
      have y0 := S1.out.cell (j := 3) (by simp)
      simp only [List.getElem_cons_zero, List.getElem_cons_succ] at y0
      clear hb3
      go_wp2_with fail
      refine (listFits_any _ s.sav 9 6 _ (L3.out.step B1.out) (HW.out.below B1.out) (by omega)).mono ?_
      rw [H3.out]
      rintro e w4 ⟨rfl, hb4⟩
      have B2 := Lib.hid (bel_add' B1.out hb4 B1.out.size)
      have S2 := Lib.hid (S1.out.below hb4 S1.out.lt)
      have y1 := S2.out.cell (j := 2) (by simp)
      simp only [List.getElem_cons_zero, List.getElem_cons_succ] at y1
      clear hb4
      go_wp2_with fail
      refine (listFits_any _ s.prep 11 6 _ (L2.out.step B2.out) (HW.out.below B2.out) (by omega)).mono ?_
      rw [H2.out]
      rintro e w5 ⟨rfl, hb5⟩
      have B3 := Lib.hid (bel_add' B2.out hb5 B2.out.size)
      have S3 := Lib.hid (S2.out.below hb5 S2.out.lt)
      have y2 := S3.out.cell (j := 4) (by simp)
      simp only [List.getElem_cons_zero, List.getElem_cons_succ] at y2
      clear hb5
      go_wp2_with fail
      refine (listFits_any _ s.wr 10 100 _ (L4.out.step B3.out) (HW.out.below B3.out) (by omega)).mono ?_
      rw [H4.out]
      rintro e w6 ⟨rfl, hb6⟩
      have B4 := Lib.hid (bel_add' B3.out hb6 B3.out.size)
      have S4 := Lib.hid (S3.out.below hb6 S3.out.lt)
      have y3 := S4.out.cell (j := 0) (by simp)
      simp only [List.getElem_cons_zero, List.getElem_cons_succ] at y3
      clear hb6
      go_wp2
      go_ret
      exact ⟨by rw [HP.out]; rfl, B4.out⟩
    have H4 := Lib.hid h4
    clear h4
    have HP := Lib.hid (HG.out H1.out H2.out H3.out H4.out)
    go_enter Tryd.func41, Tryd.ntmps41
    go_wp2_with fail
    refine (listFits_any _ s.set 9 6 _ (L1.out.step B0.out) (HW.out.below B0.out) (by omega)).mono ?_
    rw [H1.out]
    rintro e w3 ⟨rfl, hb3⟩
    have B1 := Lib.hid (bel_add' B0.out hb3 B0.out.size)
    have S1 := Lib.hid (S0.out.below hb3 S0.out.lt)
    have y0 := S1.out.cell (j := 3) (by simp)
    simp only [List.getElem_cons_zero, List.getElem_cons_succ] at y0
    clear hb3
    go_wp2_with fail
    refine (listFits_any _ s.sav 9 6 _ (L3.out.step B1.out) (HW.out.below B1.out) (by omega)).mono ?_
    rw [H3.out]
    rintro e w4 ⟨rfl, hb4⟩
    have B2 := Lib.hid (bel_add' B1.out hb4 B1.out.size)
    have S2 := Lib.hid (S1.out.below hb4 S1.out.lt)
    have y1 := S2.out.cell (j := 2) (by simp)
    simp only [List.getElem_cons_zero, List.getElem_cons_succ] at y1
    clear hb4
    go_wp2_with fail
    refine (listFits_any _ s.prep 11 6 _ (L2.out.step B2.out) (HW.out.below B2.out) (by omega)).mono ?_
    rw [H2.out]
    rintro e w5 ⟨rfl, hb5⟩
    have B3 := Lib.hid (bel_add' B2.out hb5 B2.out.size)
    have S3 := Lib.hid (S2.out.below hb5 S2.out.lt)
    have y2 := S3.out.cell (j := 4) (by simp)
    simp only [List.getElem_cons_zero, List.getElem_cons_succ] at y2
    clear hb5
    go_wp2_with fail
    refine (listFits_any _ s.wr 10 100 _ (L4.out.step B3.out) (HW.out.below B3.out) (by omega)).mono ?_
    rw [H4.out]
    rintro e w6 ⟨rfl, hb6⟩
    have B4 := Lib.hid (bel_add' B3.out hb6 B3.out.size)
    have S4 := Lib.hid (S3.out.below hb6 S3.out.lt)
    have y3 := S4.out.cell (j := 0) (by simp)
    simp only [List.getElem_cons_zero, List.getElem_cons_succ] at y3
    clear hb6
    go_wp2
    go_ret
    exact ⟨by rw [HP.out]; rfl, B4.out⟩
  have e1 : (s.st != 1) = true := bne_iff_ne.2 hs1
  have e2 : decide ((0 : Int) < (s.wr.length : Int)) = false := decide_eq_false (fun h => h6 ⟨hs1, by omega⟩)
  have e3 : decide (0 < s.wr.length) = false := decide_eq_false (fun h => h6 ⟨hs1, h⟩)
  by_cases hs0 : s.st = 0
  · have e4 : (s.st == 0) = true := beq_iff_eq.2 hs0
    have e5 : decide ((0 : Int) < (s.sav.length : Int)) = false := decide_eq_false (fun h => h5 ⟨hs0, by omega⟩)
    have e6 : decide (0 < s.sav.length) = false := decide_eq_false (fun h => h5 ⟨hs0, h⟩)
    clear h5 h6 hst hs1 hs0
    cases h1 : pairsB s.set 6 9
    · have HP := Lib.hid (sessB_set h1)
      have H1 := Lib.hid h1
      clear h1
      go_enter Tryd.func41, Tryd.ntmps41
      go_wp2_with fail
      refine (listFits_any _ s.set 9 6 _ (L1.out.step B0.out) (HW.out.below B0.out) (by omega)).mono ?_
      rw [H1.out]
      rintro e w3 ⟨rfl, hb3⟩
      have B1 := Lib.hid (bel_add' B0.out hb3 B0.out.size)
      have S1 := Lib.hid (S0.out.below hb3 S0.out.lt)
      have y0 := S1.out.cell (j := 3) (by simp)
      simp only [List.getElem_cons_zero, List.getElem_cons_succ] at y0
      clear hb3
      go_wp2
      go_ret
      exact ⟨by rw [HP.out]; rfl, B1.out⟩
    have H1 := Lib.hid h1
    clear h1
    cases h3 : pairsB s.sav 6 9
    · have HP := Lib.hid (sessB_sav h3)
      have H3 := Lib.hid h3
      clear h3
      go_enter Tryd.func41, Tryd.ntmps41
      go_wp2_with fail
      refine (listFits_any _ s.set 9 6 _ (L1.out.step B0.out) (HW.out.below B0.out) (by omega)).mono ?_
      rw [H1.out]
      rintro e w3 ⟨rfl, hb3⟩
      have B1 := Lib.hid (bel_add' B0.out hb3 B0.out.size)
      have S1 := Lib.hid (S0.out.below hb3 S0.out.lt)
      have y0 := S1.out.cell (j := 3) (by simp)
      simp only [List.getElem_cons_zero, List.getElem_cons_succ] at y0
      clear hb3
      go_wp2_with fail
      refine (listFits_any _ s.sav 9 6 _ (L3.out.step B1.out) (HW.out.below B1.out) (by omega)).mono ?_
      rw [H3.out]
      rintro e w4 ⟨rfl, hb4⟩
      have B2 := Lib.hid (bel_add' B1.out hb4 B1.out.size)
      have S2 := Lib.hid (S1.out.below hb4 S1.out.lt)
      have y1 := S2.out.cell (j := 2) (by simp)
      simp only [List.getElem_cons_zero, List.getElem_cons_succ] at y1
      clear hb4
      go_wp2
      go_ret
      exact ⟨by rw [HP.out]; rfl, B2.out⟩
    have H3 := Lib.hid h3
    clear h3
    cases h2 : pairsB s.prep 6 11
    · have HP := Lib.hid (sessB_prep h2)
      have H2 := Lib.hid h2
      clear h2
      go_enter Tryd.func41, Tryd.ntmps41
      go_wp2_with fail
      refine (listFits_any _ s.set 9 6 _ (L1.out.step B0.out) (HW.out.below B0.out) (by omega)).mono ?_
      rw [H1.out]
      rintro e w3 ⟨rfl, hb3⟩
      have B1 := Lib.hid (bel_add' B0.out hb3 B0.out.size)
      have S1 := Lib.hid (S0.out.below hb3 S0.out.lt)
      have y0 := S1.out.cell (j := 3) (by simp)
      simp only [List.getElem_cons_zero, List.getElem_cons_succ] at y0
      clear hb3
      go_wp2_with fail
      refine (listFits_any _ s.sav 9 6 _ (L3.out.step B1.out) (HW.out.below B1.out) (by omega)).mono ?_
      rw [H3.out]
      rintro e w4 ⟨rfl, hb4⟩
      have B2 := Lib.hid (bel_add' B1.out hb4 B1.out.size)
      have S2 := Lib.hid (S1.out.below hb4 S1.out.lt)
      have y1 := S2.out.cell (j := 2) (by simp)
      simp only [List.getElem_cons_zero, List.getElem_cons_succ] at y1
      clear hb4
      go_wp2_with fail
      refine (listFits_any _ s.prep 11 6 _ (L2.out.step B2.out) (HW.out.below B2.out) (by omega)).mono ?_
      rw [H2.out]
      rintro e w5 ⟨rfl, hb5⟩
      have B3 := Lib.hid (bel_add' B2.out hb5 B2.out.size)
      have S3 := Lib.hid (S2.out.below hb5 S2.out.lt)
      have y2 := S3.out.cell (j := 4) (by simp)
      simp only [List.getElem_cons_zero, List.getElem_cons_succ] at y2
      clear hb5
      go_wp2
      go_ret
      exact ⟨by rw [HP.out]; rfl, B3.out⟩
    have H2 := Lib.hid h2
    clear h2
    cases h4 : pairsB s.wr 100 10
    · have HP := Lib.hid (sessB_wr h4)
      have H4 := Lib.hid h4
      clear h4
      go_enter Tryd.func41, Tryd.ntmps41
      go_wp2_with fail
      refine (listFits_any _ s.set 9 6 _ (L1.out.step B0.out) (HW.out.below B0.out) (by omega)).mono ?_
      rw [H1.out]
      rintro e w3 ⟨rfl, hb3⟩
      have B1 := Lib.hid (bel_add' B0.out hb3 B0.out.size)
      have S1 := Lib.hid (S0.out.below hb3 S0.out.lt)
      have y0 := S1.out.cell (j := 3) (by simp)
      simp only [List.getElem_cons_zero, List.getElem_cons_succ] at y0
      clear hb3
      go_wp2_with fail
      refine (listFits_any _ s.sav 9 6 _ (L3.out.step B1.out) (HW.out.below B1.out) (by omega)).mono ?_
      rw [H3.out]
      rintro e w4 ⟨rfl, hb4⟩
      have B2 := Lib.hid (bel_add' B1.out hb4 B1.out.size)
      have S2 := Lib.hid (S1.out.below hb4 S1.out.lt)
      have y1 := S2.out.cell (j := 2) (by simp)
      simp only [List.getElem_cons_zero, List.getElem_cons_succ] at y1
      clear hb4
      go_wp2_with fail
      refine (listFits_any _ s.prep 11 6 _ (L2.out.step B2.out) (HW.out.below B2.out) (by omega)).mono ?_
      rw [H2.out]
      rintro e w5 ⟨rfl, hb5⟩
      have B3 := Lib.hid (bel_add' B2.out hb5 B2.out.size)
      have S3 := Lib.hid (S2.out.below hb5 S2.out.lt)
      have y2 := S3.out.cell (j := 4) (by simp)
      simp only [List.getElem_cons_zero, List.getElem_cons_succ] at y2
      clear hb5
      go_wp2_with fail
      refine (listFits_any _ s.wr 10 100 _ (L4.out.step B3.out) (HW.out.below B3.out) (by omega)).mono ?_
      rw [H4.out]
      rintro e w6 ⟨rfl, hb6⟩
      have B4 := Lib.hid (bel_add' B3.out hb6 B3.out.size)
      have S4 := Lib.hid (S3.out.below hb6 S3.out.lt)
      have y3 := S4.out.cell (j := 0) (by simp)
      simp only [List.getElem_cons_zero, List.getElem_cons_succ] at y3
      clear hb6
      go_wp2
      go_ret
      exact ⟨by rw [HP.out]; rfl, B4.out⟩
    have H4 := Lib.hid h4
    clear h4
    have HP := Lib.hid (HG.out H1.out H2.out H3.out H4.out)
    go_enter Tryd.func41, Tryd.ntmps41
    go_wp2_with fail
    refine (listFits_any _ s.set 9 6 _ (L1.out.step B0.out) (HW.out.below B0.out) (by omega)).mono ?_
    rw [H1.out]
    rintro e w3 ⟨rfl, hb3⟩
    have B1 := Lib.hid (bel_add' B0.out hb3 B0.out.size)
    have S1 := Lib.hid (S0.out.below hb3 S0.out.lt)
    have y0 := S1.out.cell (j := 3) (by simp)
    simp only [List.getElem_cons_zero, List.getElem_cons_succ] at y0
    clear hb3
    go_wp2_with fail
    refine (listFits_any _ s.sav 9 6 _ (L3.out.step B1.out) (HW.out.below B1.out) (by omega)).mono ?_
    rw [H3.out]
    rintro e w4 ⟨rfl, hb4⟩
    have B2 := Lib.hid (bel_add' B1.out hb4 B1.out.size)
    have S2 := Lib.hid (S1.out.below hb4 S1.out.lt)
    have y1 := S2.out.cell (j := 2) (by simp)
    simp only [List.getElem_cons_zero, List.getElem_cons_succ] at y1
    clear hb4
    go_wp2_with fail
    refine (listFits_any _ s.prep 11 6 _ (L2.out.step B2.out) (HW.out.below B2.out) (by omega)).mono ?_
    rw [H2.out]
    rintro e w5 ⟨rfl, hb5⟩
    have B3 := Lib.hid (bel_add' B2.out hb5 B2.out.size)
    have S3 := Lib.hid (S2.out.below hb5 S2.out.lt)
    have y2 := S3.out.cell (j := 4) (by simp)
    simp only [List.getElem_cons_zero, List.getElem_cons_succ] at y2
    clear hb5
    go_wp2_with fail
    refine (listFits_any _ s.wr 10 100 _ (L4.out.step B3.out) (HW.out.below B3.out) (by omega)).mono ?_
    rw [H4.out]
    rintro e w6 ⟨rfl, hb6⟩
    have B4 := Lib.hid (bel_add' B3.out hb6 B3.out.size)
    have S4 := Lib.hid (S3.out.below hb6 S3.out.lt)
    have y3 := S4.out.cell (j := 0) (by simp)
    simp only [List.getElem_cons_zero, List.getElem_cons_succ] at y3
    clear hb6
    go_wp2
    go_ret
    exact ⟨by rw [HP.out]; rfl, B4.out⟩
  · have e4 : (s.st == 0) = false := beq_eq_false_iff_ne.2 hs0
    clear h5 h6 hst hs1 hs0
    cases h1 : pairsB s.set 6 9
    · have HP := Lib.hid (sessB_set h1)
      have H1 := Lib.hid h1
      clear h1
      go_enter Tryd.func41, Tryd.ntmps41
      go_wp2_with fail
      refine (listFits_any _ s.set 9 6 _ (L1.out.step B0.out) (HW.out.below B0.out) (by omega)).mono ?_
      rw [H1.out]
      rintro e w3 ⟨rfl, hb3⟩
      have B1 := Lib.hid (bel_add' B0.out hb3 B0.out.size)
      have S1 := Lib.hid (S0.out.below hb3 S0.out.lt)
      have y0 := S1.out.cell (j := 3) (by simp)
      simp only [List.getElem_cons_zero, List.getElem_cons_succ] at y0
      clear hb3
      go_wp2
      go_ret
      exact ⟨by rw [HP.out]; rfl, B1.out⟩
    have H1 := Lib.hid h1
    clear h1
    cases h3 : pairsB s.sav 6 9
    · have HP := Lib.hid (sessB_sav h3)
      have H3 := Lib.hid h3
      clear h3
      go_enter Tryd.func41, Tryd.ntmps41
      go_wp2_with fail
      refine (listFits_any _ s.set 9 6 _ (L1.out.step B0.out) (HW.out.below B0.out) (by omega)).mono ?_
      rw [H1.out]
      rintro e w3 ⟨rfl, hb3⟩
      have B1 := Lib.hid (bel_add' B0.out hb3 B0.out.size)
      have S1 := Lib.hid (S0.out.below hb3 S0.out.lt)
      have y0 := S1.out.cell (j := 3) (by simp)
      simp only [List.getElem_cons_zero, List.getElem_cons_succ] at y0
      clear hb3
      go_wp2_with fail
      refine (listFits_any _ s.sav 9 6 _ (L3.out.step B1.out) (HW.out.below B1.out) (by omega)).mono ?_
      rw [H3.out]
      rintro e w4 ⟨rfl, hb4⟩
      have B2 := Lib.hid (bel_add' B1.out hb4 B1.out.size)
      have S2 := Lib.hid (S1.out.below hb4 S1.out.lt)
      have y1 := S2.out.cell (j := 2) (by simp)
      simp only [List.getElem_cons_zero, List.getElem_cons_succ] at y1
      clear hb4
      go_wp2
      go_ret
      exact ⟨by rw [HP.out]; rfl, B2.out⟩
    have H3 := Lib.hid h3
    clear h3
    cases h2 : pairsB s.prep 6 11
    · have HP := Lib.hid (sessB_prep h2)
      have H2 := Lib.hid h2
      clear h2
      go_enter Tryd.func41, Tryd.ntmps41
      go_wp2_with fail
      refine (listFits_any _ s.set 9 6 _ (L1.out.step B0.out) (HW.out.below B0.out) (by omega)).mono ?_
      rw [H1.out]
      rintro e w3 ⟨rfl, hb3⟩
      have B1 := Lib.hid (bel_add' B0.out hb3 B0.out.size)
      have S1 := Lib.hid (S0.out.below hb3 S0.out.lt)
      have y0 := S1.out.cell (j := 3) (by simp)
      simp only [List.getElem_cons_zero, List.getElem_cons_succ] at y0
      clear hb3
      go_wp2_with fail
      refine (listFits_any _ s.sav 9 6 _ (L3.out.step B1.out) (HW.out.below B1.out) (by omega)).mono ?_
      rw [H3.out]
      rintro e w4 ⟨rfl, hb4⟩
      have B2 := Lib.hid (bel_add' B1.out hb4 B1.out.size)
      have S2 := Lib.hid (S1.out.below hb4 S1.out.lt)
      have y1 := S2.out.cell (j := 2) (by simp)
      simp only [List.getElem_cons_zero, List.getElem_cons_succ] at y1
      clear hb4
      go_wp2_with fail
      refine (listFits_any _ s.prep 11 6 _ (L2.out.step B2.out) (HW.out.below B2.out) (by omega)).mono ?_
      rw [H2.out]
      rintro e w5 ⟨rfl, hb5⟩
      have B3 := Lib.hid (bel_add' B2.out hb5 B2.out.size)
      have S3 := Lib.hid (S2.out.below hb5 S2.out.lt)
      have y2 := S3.out.cell (j := 4) (by simp)
      simp only [List.getElem_cons_zero, List.getElem_cons_succ] at y2
      clear hb5
      go_wp2
      go_ret
      exact ⟨by rw [HP.out]; rfl, B3.out⟩
    have H2 := Lib.hid h2
    clear h2
    cases h4 : pairsB s.wr 100 10
    · have HP := Lib.hid (sessB_wr h4)
      have H4 := Lib.hid h4
      clear h4
      go_enter Tryd.func41, Tryd.ntmps41
      go_wp2_with fail
      refine (listFits_any _ s.set 9 6 _ (L1.out.step B0.out) (HW.out.below B0.out) (by omega)).mono ?_
      rw [H1.out]
      rintro e w3 ⟨rfl, hb3⟩
      have B1 := Lib.hid (bel_add' B0.out hb3 B0.out.size)
      have S1 := Lib.hid (S0.out.below hb3 S0.out.lt)
      have y0 := S1.out.cell (j := 3) (by simp)
      simp only [List.getElem_cons_zero, List.getElem_cons_succ] at y0
      clear hb3
      go_wp2_with fail
      refine (listFits_any _ s.sav 9 6 _ (L3.out.step B1.out) (HW.out.below B1.out) (by omega)).mono ?_
      rw [H3.out]
      rintro e w4 ⟨rfl, hb4⟩
      have B2 := Lib.hid (bel_add' B1.out hb4 B1.out.size)
      have S2 := Lib.hid (S1.out.below hb4 S1.out.lt)
      have y1 := S2.out.cell (j := 2) (by simp)
      simp only [List.getElem_cons_zero, List.getElem_cons_succ] at y1
      clear hb4
      go_wp2_with fail
      refine (listFits_any _ s.prep 11 6 _ (L2.out.step B2.out) (HW.out.below B2.out) (by omega)).mono ?_
      rw [H2.out]
      rintro e w5 ⟨rfl, hb5⟩
      have B3 := Lib.hid (bel_add' B2.out hb5 B2.out.size)
      have S3 := Lib.hid (S2.out.below hb5 S2.out.lt)
      have y2 := S3.out.cell (j := 4) (by simp)
      simp only [List.getElem_cons_zero, List.getElem_cons_succ] at y2
      clear hb5
      go_wp2_with fail
      refine (listFits_any _ s.wr 10 100 _ (L4.out.step B3.out) (HW.out.below B3.out) (by omega)).mono ?_
      rw [H4.out]
      rintro e w6 ⟨rfl, hb6⟩
      have B4 := Lib.hid (bel_add' B3.out hb6 B3.out.size)
      have S4 := Lib.hid (S3.out.below hb6 S3.out.lt)
      have y3 := S4.out.cell (j := 0) (by simp)
      simp only [List.getElem_cons_zero, List.getElem_cons_succ] at y3
      clear hb6
      go_wp2
      go_ret
      exact ⟨by rw [HP.out]; rfl, B4.out⟩
    have H4 := Lib.hid h4
    clear h4
    have HP := Lib.hid (HG.out H1.out H2.out H3.out H4.out)
    go_enter Tryd.func41, Tryd.ntmps41
    go_wp2_with fail
    refine (listFits_any _ s.set 9 6 _ (L1.out.step B0.out) (HW.out.below B0.out) (by omega)).mono ?_
    rw [H1.out]
    rintro e w3 ⟨rfl, hb3⟩
    have B1 := Lib.hid (bel_add' B0.out hb3 B0.out.size)
    have S1 := Lib.hid (S0.out.below hb3 S0.out.lt)
    have y0 := S1.out.cell (j := 3) (by simp)
    simp only [List.getElem_cons_zero, List.getElem_cons_succ] at y0
    clear hb3
    go_wp2_with fail
    refine (listFits_any _ s.sav 9 6 _ (L3.out.step B1.out) (HW.out.below B1.out) (by omega)).mono ?_
    rw [H3.out]
    rintro e w4 ⟨rfl, hb4⟩
    have B2 := Lib.hid (bel_add' B1.out hb4 B1.out.size)
    have S2 := Lib.hid (S1.out.below hb4 S1.out.lt)
    have y1 := S2.out.cell (j := 2) (by simp)
    simp only [List.getElem_cons_zero, List.getElem_cons_succ] at y1
    clear hb4
    go_wp2_with fail
    refine (listFits_any _ s.prep 11 6 _ (L2.out.step B2.out) (HW.out.below B2.out) (by omega)).mono ?_
    rw [H2.out]
    rintro e w5 ⟨rfl, hb5⟩
    have B3 := Lib.hid (bel_add' B2.out hb5 B2.out.size)
    have S3 := Lib.hid (S2.out.below hb5 S2.out.lt)
    have y2 := S3.out.cell (j := 4) (by simp)
    simp only [List.getElem_cons_zero, List.getElem_cons_succ] at y2
    clear hb5
    go_wp2_with fail
    refine (listFits_any _ s.wr 10 100 _ (L4.out.step B3.out) (HW.out.below B3.out) (by omega)).mono ?_
    rw [H4.out]
    rintro e w6 ⟨rfl, hb6⟩
    have B4 := Lib.hid (bel_add' B3.out hb6 B3.out.size)
    have S4 := Lib.hid (S3.out.below hb6 S3.out.lt)
    have y3 := S4.out.cell (j := 0) (by simp)
    simp only [List.getElem_cons_zero, List.getElem_cons_succ] at y3
    clear hb6
    go_wp2
    go_ret
    exact ⟨by rw [HP.out]; rfl, B4.out⟩
end Go.Proofs.YtpbaobmegomfpaaDoor
