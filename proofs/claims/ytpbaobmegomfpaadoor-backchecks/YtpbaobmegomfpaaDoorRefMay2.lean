/-
  Walks of the reference's WorldMay.
-/
import Derived.Test.YtpbaobmegomfpaaDoorRefMay
import Derived.Test.YtpbaobmegomfpaaDoorBChk
namespace Go.Proofs.YtpbaobmegomfpaaDoor
open Go.RowKit
set_option linter.unusedVariables false
set_option linter.unusedSimpArgs false
set_option maxRecDepth 100000

/-- the first i sessions are as they should be -/
def OkTo (W : Wd) (i : Nat) : Prop := ∀ j (hj : j < W.ss.length), j < i → sessB W.ss[j] = true ∧ ∀ p ∈ W.ss[j].wr, heldB W.ss j p.1 = false
def MayRel (w : World) (W : Wd) (r s : Value) (i : Nat) (wr : World) : Prop := OkTo W i ∧ AllBox w r s wr ∧ Below w.heap.size w wr
def FreeTo (W : Wd) (i : Nat) (l : PL) (k : Nat) : Prop := ∀ j (hj : j < l.length), j < k → heldB W.ss i l[j].1 = false
def HeldRel (w : World) (W : Wd) (r s : Value) (i : Nat) (l : PL) (B : Nat) (vs : List Value) (k : Nat) (wr : World) : Prop := FreeTo W i l k ∧ AllBox w r s wr ∧ RowTo wr B 77 5 vs ∧ Below w.heap.size w wr
theorem sess_row {w : World} {v0 v1 v2 v3 v4 : Value} : RowTo (w.alloc (.cells #[v0, v1, v2, v3, v4] 77)) w.heap.size 77 5 [v0, v1, v2, v3, v4] := RowTo.whole w #[v0, v1, v2, v3, v4] 77
theorem own_form {w : World} {base t n : Nat} {v : Value} {xs : List Value} (h : w.ownsRow base t 2 v n xs) : ∃ A c, v = .slice A n c := by
  obtain ⟨_, ⟨hv, hn⟩ | ⟨g, cap, cur, hv, _⟩⟩ := h
  · exact ⟨none, 0, by rw [hv, hn]⟩
  · exact ⟨_, _, hv⟩
theorem st_idle {s : Sess} (h : ¬ (s.st = 0 ∧ 0 < s.sav.length)) : ((s.st == 0) && decide (0 < s.sav.length)) = false := by
  by_cases e : s.st = 0
  · rw [decide_eq_false (fun h1 => h ⟨e, h1⟩), Bool.and_false]
  · rw [beq_eq_false_iff_ne.2 e, Bool.false_and]

set_option maxHeartbeats 4000000 in
theorem worldMay_any (r s : Value) (W : Wd) (w : World) (hW : Wld w w.heap.size r s W) :
    Calls Tryd.prog 23 #[.agg #[r, s]] w fun e w' => e = .returned (.bool (worldB W)) ∧ Below w.heap.size w w' := by
  have HWW := Lib.hid hW
  obtain ⟨hr, hs⟩ := hW
  obtain ⟨A, c, rfl, hc⟩ := hs.form
  obtain ⟨D, d, rfl, hd⟩ := hr.form
  have hby := hs.bytes
  have HS := Lib.hid hs
  have HR := Lib.hid hr
  clear hs hr
  have b0 : Below w.heap.size w (w.alloc (.cells #[.slice D W.rows.length d, .slice A W.ss.length c] 49)) := (Below.refl _ _).alloc (Nat.le_refl _) _
  have HX := Lib.hid (RowTo.whole w #[.slice D W.rows.length d, .slice A W.ss.length c] 49)
  cases hp : pairsB W.rows 100 10
  · have HP := Lib.hid (worldB_rows hp)
    have HPB := Lib.hid hp
    clear hp
    go_enter Tryd.func23, Tryd.ntmps23
    go_wp2_with fail
    refine (pairsMay_any _ W.rows 10 100 _ (HR.out.step b0) (by omega)).mono ?_
    rw [HPB.out]
    rintro e w1 ⟨rfl, hb1⟩
    go_wp2
    go_ret
    exact ⟨by rw [HP.out]; rfl, bel_add' b0 hb1 b0.size⟩
  have HPB := Lib.hid hp
  clear hp
  by_cases h8 : W.ss.length ≤ 8
  case neg =>
    have HP := Lib.hid (worldB_many h8)
    have hd8 : decide ((8 : Int) < (W.ss.length : Int)) = true := decide_eq_true (by omega)
    have hd8' : decide (8 < W.ss.length) = true := decide_eq_true (by omega)
    go_enter Tryd.func23, Tryd.ntmps23
    go_wp2_with fail
    refine (pairsMay_any _ W.rows 10 100 _ (HR.out.step b0) (by omega)).mono ?_
    rw [HPB.out]
    rintro e w1 ⟨rfl, hb1⟩
    have HX1 := HX.out.below hb1 HX.out.lt
    have x1 := HX1.cell (j := 1) (by simp)
    simp only [List.getElem_cons_zero, List.getElem_cons_succ] at x1
    go_wp2
    go_ret
    exact ⟨by rw [HP.out]; rfl, bel_add' b0 hb1 b0.size⟩
  have hd8 : decide ((8 : Int) < (W.ss.length : Int)) = false := decide_eq_false (by omega)
  have hd8' : decide (8 < W.ss.length) = false := decide_eq_false (by omega)
  go_enter Tryd.func23, Tryd.ntmps23
  go_wp2_with fail
  refine (pairsMay_any _ W.rows 10 100 _ (HR.out.step b0) (by omega)).mono ?_
  rw [HPB.out]
  rintro e w1 ⟨rfl, hb1⟩
  have HX1 := HX.out.below hb1 HX.out.lt
  have x1 := HX1.cell (j := 1) (by simp)
  simp only [List.getElem_cons_zero, List.getElem_cons_succ] at x1
  have HXX := Lib.hid HX1
  have HBB := Lib.hid (bel_add' b0 hb1 b0.size)
  clear HX1 HX hb1
  go_wp2
  clear x1
  go_loopw [3] (fun i wr => ∃ k : Nat, k ≤ W.ss.length ∧ i = .int .i64 k ∧ MayRel w W (.slice D W.rows.length d) (.slice A W.ss.length c) k wr) (fun i _ => W.ss.length - (intOf i).toNat)
  case atStart => exact ⟨0, by omega, rfl, fun j hj h => by omega, HXX.out, HBB.out⟩
  case round =>
    clear HXX HBB b0
    obtain ⟨i, hi, rfl, hok, hbox, bel⟩ := hrel
    have x0 := hbox.cell (j := 0) (by simp)
    have x1 := hbox.cell (j := 1) (by simp)
    simp only [List.getElem_cons_zero, List.getElem_cons_succ] at x0 x1
    have hxl := hbox.lt
    have HOK := Lib.hid hok
    have HX := Lib.hid hbox
    have HB := Lib.hid bel
    clear hok hbox bel
    by_cases hlt : i < W.ss.length
    · obtain ⟨b, off, v1, v2, v3, v4, rfl, hb, hses⟩ := HS.out.pt hlt
      have HW1 := Lib.hid (fun h => worldB_sess (W := W) hlt h)
      have HW2 := Lib.hid (fun p hp h => worldB_held (W := W) hlt (p := p) hp h)
      have HOK1 := Lib.hid (fun (h : sessB W.ss[i] = true ∧ ∀ p ∈ W.ss[i].wr, heldB W.ss i p.1 = false) => (fun j hj hji => if e : j = i then by subst e; exact h else HOK.out j hj (by omega) : OkTo W (i + 1)))
      generalize hsk : W.ss[i] = s at *
      obtain ⟨d0, d1, d2, d3, d4, l1, l2, l3, l4⟩ := hses.keep (w' := wr) hb (Nat.le_refl _) fun p hp => HB.out.cell hp
      obtain ⟨A1, c1, rfl, _⟩ := l1.form
      obtain ⟨A2, c2, rfl, _⟩ := l2.form
      obtain ⟨A3, c3, rfl, _⟩ := l3.form
      obtain ⟨A4, c4, rfl, _⟩ := l4.form
      have HL := Lib.hid hses
      clear l1 l2 l3 l4 hses hsk
      have hbw : b < wr.heap.size := Nat.lt_of_lt_of_le hb HB.out.size
      have B0 := Lib.hid (HB.out.alloc HB.out.size (.cells #[.int .i64 s.st, .slice A1 s.set.length c1, .slice A2 s.prep.length c2, .slice A3 s.sav.length c3, .slice A4 s.wr.length c4] 77))
      have S0 := Lib.hid (sess_row (w := wr) (v0 := .int .i64 s.st) (v1 := .slice A1 s.set.length c1) (v2 := .slice A2 s.prep.length c2) (v3 := .slice A3 s.sav.length c3) (v4 := .slice A4 s.wr.length c4))
      cases h0 : inB 0 s.st 2
      · have HP := Lib.hid (HW1.out (sessB_st h0))
        have H0 := Lib.hid h0
        clear h0
        go_wp2_with fail
        refine (in_any s.st 0 2 _).mono ?_
        rw [H0.out]
        rintro e w2 ⟨rfl, rfl⟩
        go_wp2
        go_ret
        exact ⟨by rw [HP.out]; rfl, B0.out⟩
      have H0 := Lib.hid h0
      clear h0
      cases h1 : pairsB s.set 6 9
      · have HP := Lib.hid (HW1.out (sessB_set h1))
        have H1 := Lib.hid h1
        clear h1
        go_wp2_with fail
        refine (in_any s.st 0 2 _).mono ?_
        rw [H0.out]
        rintro e w2 ⟨rfl, rfl⟩
        go_wp2_with fail
        refine (pairsMay_any _ s.set 9 6 _ (HL.out.l1.step B0.out) (by omega)).mono ?_
        rw [H1.out]
        rintro e w3 ⟨rfl, hb3⟩
        have B1 := Lib.hid (bel_add' B0.out hb3 B0.out.size)
        have S1 := Lib.hid (S0.out.below hb3 S0.out.lt)
        have y0 := S1.out.cell (j := 2) (by simp)
        simp only [List.getElem_cons_zero, List.getElem_cons_succ] at y0
        clear hb3
        go_wp2
        go_ret
        exact ⟨by rw [HP.out]; rfl, B1.out⟩
      have H1 := Lib.hid h1
      clear h1
      cases h2 : pairsB s.prep 6 11
      · have HP := Lib.hid (HW1.out (sessB_prep h2))
        have H2 := Lib.hid h2
        clear h2
        go_wp2_with fail
        refine (in_any s.st 0 2 _).mono ?_
        rw [H0.out]
        rintro e w2 ⟨rfl, rfl⟩
        go_wp2_with fail
        refine (pairsMay_any _ s.set 9 6 _ (HL.out.l1.step B0.out) (by omega)).mono ?_
        rw [H1.out]
        rintro e w3 ⟨rfl, hb3⟩
        have B1 := Lib.hid (bel_add' B0.out hb3 B0.out.size)
        have S1 := Lib.hid (S0.out.below hb3 S0.out.lt)
        have y0 := S1.out.cell (j := 2) (by simp)
        simp only [List.getElem_cons_zero, List.getElem_cons_succ] at y0
        clear hb3
        go_wp2_with fail
        refine (pairsMay_any _ s.prep 11 6 _ (HL.out.l2.step B1.out) (by omega)).mono ?_
        rw [H2.out]
        rintro e w4 ⟨rfl, hb4⟩
        have B2 := Lib.hid (bel_add' B1.out hb4 B1.out.size)
        have S2 := Lib.hid (S1.out.below hb4 S1.out.lt)
        have y1 := S2.out.cell (j := 3) (by simp)
        simp only [List.getElem_cons_zero, List.getElem_cons_succ] at y1
        clear hb4
        go_wp2
        go_ret
        exact ⟨by rw [HP.out]; rfl, B2.out⟩
      have H2 := Lib.hid h2
      clear h2
      cases h3 : pairsB s.sav 6 9
      · have HP := Lib.hid (HW1.out (sessB_sav h3))
        have H3 := Lib.hid h3
        clear h3
        go_wp2_with fail
        refine (in_any s.st 0 2 _).mono ?_
        rw [H0.out]
        rintro e w2 ⟨rfl, rfl⟩
        go_wp2_with fail
        refine (pairsMay_any _ s.set 9 6 _ (HL.out.l1.step B0.out) (by omega)).mono ?_
        rw [H1.out]
        rintro e w3 ⟨rfl, hb3⟩
        have B1 := Lib.hid (bel_add' B0.out hb3 B0.out.size)
        have S1 := Lib.hid (S0.out.below hb3 S0.out.lt)
        have y0 := S1.out.cell (j := 2) (by simp)
        simp only [List.getElem_cons_zero, List.getElem_cons_succ] at y0
        clear hb3
        go_wp2_with fail
        refine (pairsMay_any _ s.prep 11 6 _ (HL.out.l2.step B1.out) (by omega)).mono ?_
        rw [H2.out]
        rintro e w4 ⟨rfl, hb4⟩
        have B2 := Lib.hid (bel_add' B1.out hb4 B1.out.size)
        have S2 := Lib.hid (S1.out.below hb4 S1.out.lt)
        have y1 := S2.out.cell (j := 3) (by simp)
        simp only [List.getElem_cons_zero, List.getElem_cons_succ] at y1
        clear hb4
        go_wp2_with fail
        refine (pairsMay_any _ s.sav 9 6 _ (HL.out.l3.step B2.out) (by omega)).mono ?_
        rw [H3.out]
        rintro e w5 ⟨rfl, hb5⟩
        have B3 := Lib.hid (bel_add' B2.out hb5 B2.out.size)
        have S3 := Lib.hid (S2.out.below hb5 S2.out.lt)
        have y2 := S3.out.cell (j := 4) (by simp)
        simp only [List.getElem_cons_zero, List.getElem_cons_succ] at y2
        clear hb5
        go_wp2
        go_ret
        exact ⟨by rw [HP.out]; rfl, B3.out⟩
      have H3 := Lib.hid h3
      clear h3
      cases h4 : pairsB s.wr 100 10
      · have HP := Lib.hid (HW1.out (sessB_wr h4))
        have H4 := Lib.hid h4
        clear h4
        go_wp2_with fail
        refine (in_any s.st 0 2 _).mono ?_
        rw [H0.out]
        rintro e w2 ⟨rfl, rfl⟩
        go_wp2_with fail
        refine (pairsMay_any _ s.set 9 6 _ (HL.out.l1.step B0.out) (by omega)).mono ?_
        rw [H1.out]
        rintro e w3 ⟨rfl, hb3⟩
        have B1 := Lib.hid (bel_add' B0.out hb3 B0.out.size)
        have S1 := Lib.hid (S0.out.below hb3 S0.out.lt)
        have y0 := S1.out.cell (j := 2) (by simp)
        simp only [List.getElem_cons_zero, List.getElem_cons_succ] at y0
        clear hb3
        go_wp2_with fail
        refine (pairsMay_any _ s.prep 11 6 _ (HL.out.l2.step B1.out) (by omega)).mono ?_
        rw [H2.out]
        rintro e w4 ⟨rfl, hb4⟩
        have B2 := Lib.hid (bel_add' B1.out hb4 B1.out.size)
        have S2 := Lib.hid (S1.out.below hb4 S1.out.lt)
        have y1 := S2.out.cell (j := 3) (by simp)
        simp only [List.getElem_cons_zero, List.getElem_cons_succ] at y1
        clear hb4
        go_wp2_with fail
        refine (pairsMay_any _ s.sav 9 6 _ (HL.out.l3.step B2.out) (by omega)).mono ?_
        rw [H3.out]
        rintro e w5 ⟨rfl, hb5⟩
        have B3 := Lib.hid (bel_add' B2.out hb5 B2.out.size)
        have S3 := Lib.hid (S2.out.below hb5 S2.out.lt)
        have y2 := S3.out.cell (j := 4) (by simp)
        simp only [List.getElem_cons_zero, List.getElem_cons_succ] at y2
        clear hb5
        go_wp2_with fail
        refine (pairsMay_any _ s.wr 10 100 _ (HL.out.l4.step B3.out) (by omega)).mono ?_
        rw [H4.out]
        rintro e w6 ⟨rfl, hb6⟩
        have B4 := Lib.hid (bel_add' B3.out hb6 B3.out.size)
        have S4 := Lib.hid (S3.out.below hb6 S3.out.lt)
        have y3 := S4.out.cell (j := 0) (by simp)
        simp only [List.getElem_cons_zero, List.getElem_cons_succ] at y3
        clear hb6
        go_wp2
        go_ret
        exact ⟨by rw [HP.out]; rfl, B4.out⟩
      have H4 := Lib.hid h4
      clear h4
      by_cases h5 : s.st = 0 ∧ 0 < s.sav.length
      · have HP := Lib.hid (HW1.out (sessB_idle h5.1 h5.2))
        have e1 : (s.st == 0) = true := beq_iff_eq.2 h5.1
        have e2 : decide ((0 : Int) < (s.sav.length : Int)) = true := decide_eq_true (by omega)
        have e3 : decide (0 < s.sav.length) = true := decide_eq_true h5.2
        clear h5
        go_wp2_with fail
        refine (in_any s.st 0 2 _).mono ?_
        rw [H0.out]
        rintro e w2 ⟨rfl, rfl⟩
        go_wp2_with fail
        refine (pairsMay_any _ s.set 9 6 _ (HL.out.l1.step B0.out) (by omega)).mono ?_
        rw [H1.out]
        rintro e w3 ⟨rfl, hb3⟩
        have B1 := Lib.hid (bel_add' B0.out hb3 B0.out.size)
        have S1 := Lib.hid (S0.out.below hb3 S0.out.lt)
        have y0 := S1.out.cell (j := 2) (by simp)
        simp only [List.getElem_cons_zero, List.getElem_cons_succ] at y0
        clear hb3
        go_wp2_with fail
        refine (pairsMay_any _ s.prep 11 6 _ (HL.out.l2.step B1.out) (by omega)).mono ?_
        rw [H2.out]
        rintro e w4 ⟨rfl, hb4⟩
        have B2 := Lib.hid (bel_add' B1.out hb4 B1.out.size)
        have S2 := Lib.hid (S1.out.below hb4 S1.out.lt)
        have y1 := S2.out.cell (j := 3) (by simp)
        simp only [List.getElem_cons_zero, List.getElem_cons_succ] at y1
        clear hb4
        go_wp2_with fail
        refine (pairsMay_any _ s.sav 9 6 _ (HL.out.l3.step B2.out) (by omega)).mono ?_
        rw [H3.out]
        rintro e w5 ⟨rfl, hb5⟩
        have B3 := Lib.hid (bel_add' B2.out hb5 B2.out.size)
        have S3 := Lib.hid (S2.out.below hb5 S2.out.lt)
        have y2 := S3.out.cell (j := 4) (by simp)
        simp only [List.getElem_cons_zero, List.getElem_cons_succ] at y2
        clear hb5
        go_wp2_with fail
        refine (pairsMay_any _ s.wr 10 100 _ (HL.out.l4.step B3.out) (by omega)).mono ?_
        rw [H4.out]
        rintro e w6 ⟨rfl, hb6⟩
        have B4 := Lib.hid (bel_add' B3.out hb6 B3.out.size)
        have S4 := Lib.hid (S3.out.below hb6 S3.out.lt)
        have y3 := S4.out.cell (j := 0) (by simp)
        simp only [List.getElem_cons_zero, List.getElem_cons_succ] at y3
        clear hb6
        have z3 := S4.out.cell (j := 3) (by simp)
        simp only [List.getElem_cons_zero, List.getElem_cons_succ] at z3
        go_wp2
        go_ret
        exact ⟨by rw [HP.out]; rfl, B4.out⟩
      by_cases h6 : s.st ≠ 1 ∧ 0 < s.wr.length
      · have HP := Lib.hid (HW1.out (sessB_tx h6.1 h6.2))
        have e1 : (s.st != 1) = true := bne_iff_ne.2 h6.1
        have e2 : decide ((0 : Int) < (s.wr.length : Int)) = true := decide_eq_true (by omega)
        have e3 : decide (0 < s.wr.length) = true := decide_eq_true h6.2
        by_cases hst : s.st = 0
        · have e4 : (s.st == 0) = true := beq_iff_eq.2 hst
          have e5 : decide ((0 : Int) < (s.sav.length : Int)) = false := decide_eq_false (fun h => h5 ⟨hst, by omega⟩)
          have e6 : decide (0 < s.sav.length) = false := decide_eq_false (fun h => h5 ⟨hst, h⟩)
          clear h5 h6 hst
          go_wp2_with fail
          refine (in_any s.st 0 2 _).mono ?_
          rw [H0.out]
          rintro e w2 ⟨rfl, rfl⟩
          go_wp2_with fail
          refine (pairsMay_any _ s.set 9 6 _ (HL.out.l1.step B0.out) (by omega)).mono ?_
          rw [H1.out]
          rintro e w3 ⟨rfl, hb3⟩
          have B1 := Lib.hid (bel_add' B0.out hb3 B0.out.size)
          have S1 := Lib.hid (S0.out.below hb3 S0.out.lt)
          have y0 := S1.out.cell (j := 2) (by simp)
          simp only [List.getElem_cons_zero, List.getElem_cons_succ] at y0
          clear hb3
          go_wp2_with fail
          refine (pairsMay_any _ s.prep 11 6 _ (HL.out.l2.step B1.out) (by omega)).mono ?_
          rw [H2.out]
          rintro e w4 ⟨rfl, hb4⟩
          have B2 := Lib.hid (bel_add' B1.out hb4 B1.out.size)
          have S2 := Lib.hid (S1.out.below hb4 S1.out.lt)
          have y1 := S2.out.cell (j := 3) (by simp)
          simp only [List.getElem_cons_zero, List.getElem_cons_succ] at y1
          clear hb4
          go_wp2_with fail
          refine (pairsMay_any _ s.sav 9 6 _ (HL.out.l3.step B2.out) (by omega)).mono ?_
          rw [H3.out]
          rintro e w5 ⟨rfl, hb5⟩
          have B3 := Lib.hid (bel_add' B2.out hb5 B2.out.size)
          have S3 := Lib.hid (S2.out.below hb5 S2.out.lt)
          have y2 := S3.out.cell (j := 4) (by simp)
          simp only [List.getElem_cons_zero, List.getElem_cons_succ] at y2
          clear hb5
          go_wp2_with fail
          refine (pairsMay_any _ s.wr 10 100 _ (HL.out.l4.step B3.out) (by omega)).mono ?_
          rw [H4.out]
          rintro e w6 ⟨rfl, hb6⟩
          have B4 := Lib.hid (bel_add' B3.out hb6 B3.out.size)
          have S4 := Lib.hid (S3.out.below hb6 S3.out.lt)
          have y3 := S4.out.cell (j := 0) (by simp)
          simp only [List.getElem_cons_zero, List.getElem_cons_succ] at y3
          clear hb6
          have z0 := S4.out.cell (j := 0) (by simp)
          have z3 := S4.out.cell (j := 3) (by simp)
          have z4 := S4.out.cell (j := 4) (by simp)
          simp only [List.getElem_cons_zero, List.getElem_cons_succ] at z0 z3 z4
          go_wp2
          go_ret
          exact ⟨by rw [HP.out]; rfl, B4.out⟩
        · have e4 : (s.st == 0) = false := beq_eq_false_iff_ne.2 hst
          clear h5 h6 hst
          go_wp2_with fail
          refine (in_any s.st 0 2 _).mono ?_
          rw [H0.out]
          rintro e w2 ⟨rfl, rfl⟩
          go_wp2_with fail
          refine (pairsMay_any _ s.set 9 6 _ (HL.out.l1.step B0.out) (by omega)).mono ?_
          rw [H1.out]
          rintro e w3 ⟨rfl, hb3⟩
          have B1 := Lib.hid (bel_add' B0.out hb3 B0.out.size)
          have S1 := Lib.hid (S0.out.below hb3 S0.out.lt)
          have y0 := S1.out.cell (j := 2) (by simp)
          simp only [List.getElem_cons_zero, List.getElem_cons_succ] at y0
          clear hb3
          go_wp2_with fail
          refine (pairsMay_any _ s.prep 11 6 _ (HL.out.l2.step B1.out) (by omega)).mono ?_
          rw [H2.out]
          rintro e w4 ⟨rfl, hb4⟩
          have B2 := Lib.hid (bel_add' B1.out hb4 B1.out.size)
          have S2 := Lib.hid (S1.out.below hb4 S1.out.lt)
          have y1 := S2.out.cell (j := 3) (by simp)
          simp only [List.getElem_cons_zero, List.getElem_cons_succ] at y1
          clear hb4
          go_wp2_with fail
          refine (pairsMay_any _ s.sav 9 6 _ (HL.out.l3.step B2.out) (by omega)).mono ?_
          rw [H3.out]
          rintro e w5 ⟨rfl, hb5⟩
          have B3 := Lib.hid (bel_add' B2.out hb5 B2.out.size)
          have S3 := Lib.hid (S2.out.below hb5 S2.out.lt)
          have y2 := S3.out.cell (j := 4) (by simp)
          simp only [List.getElem_cons_zero, List.getElem_cons_succ] at y2
          clear hb5
          go_wp2_with fail
          refine (pairsMay_any _ s.wr 10 100 _ (HL.out.l4.step B3.out) (by omega)).mono ?_
          rw [H4.out]
          rintro e w6 ⟨rfl, hb6⟩
          have B4 := Lib.hid (bel_add' B3.out hb6 B3.out.size)
          have S4 := Lib.hid (S3.out.below hb6 S3.out.lt)
          have y3 := S4.out.cell (j := 0) (by simp)
          simp only [List.getElem_cons_zero, List.getElem_cons_succ] at y3
          clear hb6
          have z0 := S4.out.cell (j := 0) (by simp)
          have z3 := S4.out.cell (j := 3) (by simp)
          have z4 := S4.out.cell (j := 4) (by simp)
          simp only [List.getElem_cons_zero, List.getElem_cons_succ] at z0 z3 z4
          go_wp2
          go_ret
          exact ⟨by rw [HP.out]; rfl, B4.out⟩
      have HG := Lib.hid (sessB_ok H0.out H1.out H2.out H3.out H4.out h5 h6)
      have hlw : s.wr.length ≤ 100 := (pairsB_rising H4.out).2.1
      by_cases hst : s.st = 1
      · have e1 : (s.st != 1) = false := by rw [hst]; rfl
        have e4 : (s.st == 0) = false := by rw [hst]; rfl
        clear h5 h6 hst
        go_wp2_with fail
        refine (in_any s.st 0 2 _).mono ?_
        rw [H0.out]
        rintro e w2 ⟨rfl, rfl⟩
        go_wp2_with fail
        refine (pairsMay_any _ s.set 9 6 _ (HL.out.l1.step B0.out) (by omega)).mono ?_
        rw [H1.out]
        rintro e w3 ⟨rfl, hb3⟩
        have B1 := Lib.hid (bel_add' B0.out hb3 B0.out.size)
        have S1 := Lib.hid (S0.out.below hb3 S0.out.lt)
        have y0 := S1.out.cell (j := 2) (by simp)
        simp only [List.getElem_cons_zero, List.getElem_cons_succ] at y0
        have hb3 := Lib.hid hb3
        go_wp2_with fail
        refine (pairsMay_any _ s.prep 11 6 _ (HL.out.l2.step B1.out) (by omega)).mono ?_
        rw [H2.out]
        rintro e w4 ⟨rfl, hb4⟩
        have B2 := Lib.hid (bel_add' B1.out hb4 B1.out.size)
        have S2 := Lib.hid (S1.out.below hb4 S1.out.lt)
        have y1 := S2.out.cell (j := 3) (by simp)
        simp only [List.getElem_cons_zero, List.getElem_cons_succ] at y1
        have hb4 := Lib.hid hb4
        go_wp2_with fail
        refine (pairsMay_any _ s.sav 9 6 _ (HL.out.l3.step B2.out) (by omega)).mono ?_
        rw [H3.out]
        rintro e w5 ⟨rfl, hb5⟩
        have B3 := Lib.hid (bel_add' B2.out hb5 B2.out.size)
        have S3 := Lib.hid (S2.out.below hb5 S2.out.lt)
        have y2 := S3.out.cell (j := 4) (by simp)
        simp only [List.getElem_cons_zero, List.getElem_cons_succ] at y2
        have hb5 := Lib.hid hb5
        go_wp2_with fail
        refine (pairsMay_any _ s.wr 10 100 _ (HL.out.l4.step B3.out) (by omega)).mono ?_
        rw [H4.out]
        rintro e w6 ⟨rfl, hb6⟩
        have B4 := Lib.hid (bel_add' B3.out hb6 B3.out.size)
        have S4 := Lib.hid (S3.out.below hb6 S3.out.lt)
        have y3 := S4.out.cell (j := 0) (by simp)
        simp only [List.getElem_cons_zero, List.getElem_cons_succ] at y3
        have hb6 := Lib.hid hb6
        have z0 := S4.out.cell (j := 0) (by simp)
        have z3 := S4.out.cell (j := 3) (by simp)
        have z4 := S4.out.cell (j := 4) (by simp)
        simp only [List.getElem_cons_zero, List.getElem_cons_succ] at z0 z3 z4
        have HBB := Lib.hid (bel_add' (bel_add' (bel_add' (bel_add' ((Below.refl wr.heap.size wr).alloc (Nat.le_refl _) (.cells #[.int .i64 s.st, .slice A1 s.set.length c1, .slice A2 s.prep.length c2, .slice A3 s.sav.length c3, .slice A4 s.wr.length c4] 77)) hb3.out (by simp)) hb4.out (by have := hb3.out.size; simp at this; omega)) hb5.out (by have := hb3.out.size; have := hb4.out.size; simp at *; omega)) hb6.out (by have := hb3.out.size; have := hb4.out.size; have := hb5.out.size; simp at *; omega))
        go_wp2
        clear z0 z3 z4 y0 y1 y2 y3
        have hlt1 := S4.out.lt
        have X4 := Lib.hid (HX.out.below (HBB.out) HX.out.lt)
        go_loopw [5] (fun j wr1 => ∃ k : Nat, k ≤ s.wr.length ∧ j = .int .i64 k ∧ HeldRel w W (.slice D W.rows.length d) (.slice (some ⟨b, off, none⟩) W.ss.length c) i s.wr wr.heap.size [.int .i64 s.st, .slice A1 s.set.length c1, .slice A2 s.prep.length c2, .slice A3 s.sav.length c3, .slice A4 s.wr.length c4] k wr1) (fun j _ => s.wr.length - (intOf j).toNat)
        case atStart => exact ⟨0, by omega, rfl, fun j hj h => by omega, X4.out, S4.out, B4.out⟩
        case round =>
          rename World => wr1
          clear X4
          obtain ⟨k, hk, rfl, hfree, hbox, hsb, bel⟩ := hrel
          have q4 := hsb.cell (j := 4) (by simp)
          have q0 := hbox.cell (j := 0) (by simp)
          have q1 := hbox.cell (j := 1) (by simp)
          simp only [List.getElem_cons_zero, List.getElem_cons_succ] at q0 q1 q4
          have hl0 := hbox.lt
          have hl1 := hsb.lt
          have HF := Lib.hid hfree
          have HY := Lib.hid hbox
          have HZ := Lib.hid hsb
          have HV := Lib.hid bel
          clear hfree hbox hsb bel
          by_cases hlk : k < s.wr.length
          · obtain ⟨b', off', rfl, hb', m0, m1⟩ := HL.out.l4.pt hlk
            have n0 := (HV.out.cell (p := ⟨b', off' + k * 2, none⟩) hb').trans m0
            have hbw' : b' < wr1.heap.size := Nat.lt_of_lt_of_le hb' HV.out.size
            have HM := Lib.hid (List.getElem_mem hlk)
            have hkl : (k : Int) < (s.wr.length : Int) := by omega
            clear m0 m1
            go_wp2
            have kb := Below.refl wr1.heap.size wr1
            have dS := Lib.hid (show wr1.drew.cell? ⟨w.heap.size, 0, none⟩ = some (.slice D W.rows.length d) ∧ wr1.drew.cell? ⟨w.heap.size, 1, none⟩ = some (.slice (some ⟨b, off, none⟩) W.ss.length c) ∧ wr1.drew.cell? ⟨wr.heap.size, 4, none⟩ = some (.slice (some ⟨b', off', none⟩) s.wr.length c4) ∧ wr1.drew.cell? ⟨b', off' + k * 2, none⟩ = some (.string s.wr[k].1) from ⟨q0, q1, q4, n0⟩)
            go_region_held3 (fun wx => wx.cell? ⟨w.heap.size, 0, none⟩ = some (.slice D W.rows.length d) ∧ wx.cell? ⟨w.heap.size, 1, none⟩ = some (.slice (some ⟨b, off, none⟩) W.ss.length c) ∧ wx.cell? ⟨wr.heap.size, 4, none⟩ = some (.slice (some ⟨b', off', none⟩) s.wr.length c4) ∧ wx.cell? ⟨b', off' + k * 2, none⟩ = some (.string s.wr[k].1))
              (first
                | with_reducible exact ⟨q0, q1, q4, n0⟩
                | with_reducible exact dS.out
                | with_reducible exact ⟨(kb.cell (p := ⟨w.heap.size, 0, none⟩) hl0).trans q0, (kb.cell (p := ⟨w.heap.size, 1, none⟩) hl0).trans q1, (kb.cell (p := ⟨wr.heap.size, 4, none⟩) hl1).trans q4, (kb.cell (p := ⟨b', off' + k * 2, none⟩) hbw').trans n0⟩)
              (first
                | (
                  go_at_call 44
                  refine (isHeld_any _ _ W i s.wr[k].1 _ (by first | exact (HWW.out.step HV.out) | exact (HWW.out.step HV.out.drew) | exact (HWW.out.step (below_drewN HV.out _)))).mono ?_
                  rintro e w8 ⟨rfl, hy⟩
                  have kb : Below wr1.heap.size wr1 w8 := by first | exact kb.trans (hy.mono kb.size) | exact kb.trans ⟨hy.os, hy.tape, hy.output, hy.size, fun i hi => hy.block i (Nat.lt_of_lt_of_le hi kb.size)⟩))
            clear q0 q1 q4 n0
            have K8 := Lib.hid kb
            clear kb
            cases hh : heldB W.ss i s.wr[k].1
            · have HH := Lib.hid hh
              go_wp2
              go_roundw
              case rel => exact ⟨k + 1, by omega, by go_num, (fun j hj hjk => if e : j = k then by subst e; exact HH.out else HF.out j hj (by omega)), HY.out.below K8.out HY.out.lt, HZ.out.below K8.out HZ.out.lt, bel_add' HV.out K8.out HV.out.size⟩
              case measure => simp [intOf]; omega
            · have HP := Lib.hid (HW2.out _ HM.out hh)
              go_wp2
              go_ret
              exact ⟨by rw [HP.out]; rfl, bel_add' HV.out K8.out HV.out.size⟩
          · have HT := Lib.hid (HOK1.out ⟨HG.out, fun p hp => by
              obtain ⟨j, hj, rfl⟩ := List.getElem_of_mem hp
              exact HF.out j hj (by omega)⟩)
            go_wp2
            go_roundw
            case rel => exact ⟨i + 1, by omega, by go_num, HT.out, HY.out, HV.out⟩
            case measure => simp [intOf]; omega
      have e1 : (s.st != 1) = true := bne_iff_ne.2 hst
      have e2 : decide ((0 : Int) < (s.wr.length : Int)) = false := decide_eq_false (fun h => h6 ⟨hst, by omega⟩)
      have e3 : decide (0 < s.wr.length) = false := decide_eq_false (fun h => h6 ⟨hst, h⟩)
      by_cases hs0 : s.st = 0
      · have e4 : (s.st == 0) = true := beq_iff_eq.2 hs0
        have e5 : decide ((0 : Int) < (s.sav.length : Int)) = false := decide_eq_false (fun h => h5 ⟨hs0, by omega⟩)
        have e6 : decide (0 < s.sav.length) = false := decide_eq_false (fun h => h5 ⟨hs0, h⟩)
        clear h5 h6 hst hs0
        go_wp2_with fail
        refine (in_any s.st 0 2 _).mono ?_
        rw [H0.out]
        rintro e w2 ⟨rfl, rfl⟩
        go_wp2_with fail
        refine (pairsMay_any _ s.set 9 6 _ (HL.out.l1.step B0.out) (by omega)).mono ?_
        rw [H1.out]
        rintro e w3 ⟨rfl, hb3⟩
        have B1 := Lib.hid (bel_add' B0.out hb3 B0.out.size)
        have S1 := Lib.hid (S0.out.below hb3 S0.out.lt)
        have y0 := S1.out.cell (j := 2) (by simp)
        simp only [List.getElem_cons_zero, List.getElem_cons_succ] at y0
        have hb3 := Lib.hid hb3
        go_wp2_with fail
        refine (pairsMay_any _ s.prep 11 6 _ (HL.out.l2.step B1.out) (by omega)).mono ?_
        rw [H2.out]
        rintro e w4 ⟨rfl, hb4⟩
        have B2 := Lib.hid (bel_add' B1.out hb4 B1.out.size)
        have S2 := Lib.hid (S1.out.below hb4 S1.out.lt)
        have y1 := S2.out.cell (j := 3) (by simp)
        simp only [List.getElem_cons_zero, List.getElem_cons_succ] at y1
        have hb4 := Lib.hid hb4
        go_wp2_with fail
        refine (pairsMay_any _ s.sav 9 6 _ (HL.out.l3.step B2.out) (by omega)).mono ?_
        rw [H3.out]
        rintro e w5 ⟨rfl, hb5⟩
        have B3 := Lib.hid (bel_add' B2.out hb5 B2.out.size)
        have S3 := Lib.hid (S2.out.below hb5 S2.out.lt)
        have y2 := S3.out.cell (j := 4) (by simp)
        simp only [List.getElem_cons_zero, List.getElem_cons_succ] at y2
        have hb5 := Lib.hid hb5
        go_wp2_with fail
        refine (pairsMay_any _ s.wr 10 100 _ (HL.out.l4.step B3.out) (by omega)).mono ?_
        rw [H4.out]
        rintro e w6 ⟨rfl, hb6⟩
        have B4 := Lib.hid (bel_add' B3.out hb6 B3.out.size)
        have S4 := Lib.hid (S3.out.below hb6 S3.out.lt)
        have y3 := S4.out.cell (j := 0) (by simp)
        simp only [List.getElem_cons_zero, List.getElem_cons_succ] at y3
        have hb6 := Lib.hid hb6
        have z0 := S4.out.cell (j := 0) (by simp)
        have z3 := S4.out.cell (j := 3) (by simp)
        have z4 := S4.out.cell (j := 4) (by simp)
        simp only [List.getElem_cons_zero, List.getElem_cons_succ] at z0 z3 z4
        have HBB := Lib.hid (bel_add' (bel_add' (bel_add' (bel_add' ((Below.refl wr.heap.size wr).alloc (Nat.le_refl _) (.cells #[.int .i64 s.st, .slice A1 s.set.length c1, .slice A2 s.prep.length c2, .slice A3 s.sav.length c3, .slice A4 s.wr.length c4] 77)) hb3.out (by simp)) hb4.out (by have := hb3.out.size; simp at this; omega)) hb5.out (by have := hb3.out.size; have := hb4.out.size; simp at *; omega)) hb6.out (by have := hb3.out.size; have := hb4.out.size; have := hb5.out.size; simp at *; omega))
        go_wp2
        clear z0 z3 z4 y0 y1 y2 y3
        have hlt1 := S4.out.lt
        have X4 := Lib.hid (HX.out.below (HBB.out) HX.out.lt)
        go_loopw [5] (fun j wr1 => ∃ k : Nat, k ≤ s.wr.length ∧ j = .int .i64 k ∧ HeldRel w W (.slice D W.rows.length d) (.slice (some ⟨b, off, none⟩) W.ss.length c) i s.wr wr.heap.size [.int .i64 s.st, .slice A1 s.set.length c1, .slice A2 s.prep.length c2, .slice A3 s.sav.length c3, .slice A4 s.wr.length c4] k wr1) (fun j _ => s.wr.length - (intOf j).toNat)
        case atStart => exact ⟨0, by omega, rfl, fun j hj h => by omega, X4.out, S4.out, B4.out⟩
        case round =>
          rename World => wr1
          clear X4
          obtain ⟨k, hk, rfl, hfree, hbox, hsb, bel⟩ := hrel
          have q4 := hsb.cell (j := 4) (by simp)
          have q0 := hbox.cell (j := 0) (by simp)
          have q1 := hbox.cell (j := 1) (by simp)
          simp only [List.getElem_cons_zero, List.getElem_cons_succ] at q0 q1 q4
          have hl0 := hbox.lt
          have hl1 := hsb.lt
          have HF := Lib.hid hfree
          have HY := Lib.hid hbox
          have HZ := Lib.hid hsb
          have HV := Lib.hid bel
          clear hfree hbox hsb bel
          by_cases hlk : k < s.wr.length
          · obtain ⟨b', off', rfl, hb', m0, m1⟩ := HL.out.l4.pt hlk
            have n0 := (HV.out.cell (p := ⟨b', off' + k * 2, none⟩) hb').trans m0
            have hbw' : b' < wr1.heap.size := Nat.lt_of_lt_of_le hb' HV.out.size
            have HM := Lib.hid (List.getElem_mem hlk)
            have hkl : (k : Int) < (s.wr.length : Int) := by omega
            clear m0 m1
            go_wp2
            have kb := Below.refl wr1.heap.size wr1
            have dS := Lib.hid (show wr1.drew.cell? ⟨w.heap.size, 0, none⟩ = some (.slice D W.rows.length d) ∧ wr1.drew.cell? ⟨w.heap.size, 1, none⟩ = some (.slice (some ⟨b, off, none⟩) W.ss.length c) ∧ wr1.drew.cell? ⟨wr.heap.size, 4, none⟩ = some (.slice (some ⟨b', off', none⟩) s.wr.length c4) ∧ wr1.drew.cell? ⟨b', off' + k * 2, none⟩ = some (.string s.wr[k].1) from ⟨q0, q1, q4, n0⟩)
            go_region_held3 (fun wx => wx.cell? ⟨w.heap.size, 0, none⟩ = some (.slice D W.rows.length d) ∧ wx.cell? ⟨w.heap.size, 1, none⟩ = some (.slice (some ⟨b, off, none⟩) W.ss.length c) ∧ wx.cell? ⟨wr.heap.size, 4, none⟩ = some (.slice (some ⟨b', off', none⟩) s.wr.length c4) ∧ wx.cell? ⟨b', off' + k * 2, none⟩ = some (.string s.wr[k].1))
              (first
                | with_reducible exact ⟨q0, q1, q4, n0⟩
                | with_reducible exact dS.out
                | with_reducible exact ⟨(kb.cell (p := ⟨w.heap.size, 0, none⟩) hl0).trans q0, (kb.cell (p := ⟨w.heap.size, 1, none⟩) hl0).trans q1, (kb.cell (p := ⟨wr.heap.size, 4, none⟩) hl1).trans q4, (kb.cell (p := ⟨b', off' + k * 2, none⟩) hbw').trans n0⟩)
              (first
                | (
                  go_at_call 44
                  refine (isHeld_any _ _ W i s.wr[k].1 _ (by first | exact (HWW.out.step HV.out) | exact (HWW.out.step HV.out.drew) | exact (HWW.out.step (below_drewN HV.out _)))).mono ?_
                  rintro e w8 ⟨rfl, hy⟩
                  have kb : Below wr1.heap.size wr1 w8 := by first | exact kb.trans (hy.mono kb.size) | exact kb.trans ⟨hy.os, hy.tape, hy.output, hy.size, fun i hi => hy.block i (Nat.lt_of_lt_of_le hi kb.size)⟩))
            clear q0 q1 q4 n0
            have K8 := Lib.hid kb
            clear kb
            cases hh : heldB W.ss i s.wr[k].1
            · have HH := Lib.hid hh
              go_wp2
              go_roundw
              case rel => exact ⟨k + 1, by omega, by go_num, (fun j hj hjk => if e : j = k then by subst e; exact HH.out else HF.out j hj (by omega)), HY.out.below K8.out HY.out.lt, HZ.out.below K8.out HZ.out.lt, bel_add' HV.out K8.out HV.out.size⟩
              case measure => simp [intOf]; omega
            · have HP := Lib.hid (HW2.out _ HM.out hh)
              go_wp2
              go_ret
              exact ⟨by rw [HP.out]; rfl, bel_add' HV.out K8.out HV.out.size⟩
          · have HT := Lib.hid (HOK1.out ⟨HG.out, fun p hp => by
              obtain ⟨j, hj, rfl⟩ := List.getElem_of_mem hp
              exact HF.out j hj (by omega)⟩)
            go_wp2
            go_roundw
            case rel => exact ⟨i + 1, by omega, by go_num, HT.out, HY.out, HV.out⟩
            case measure => simp [intOf]; omega
      · have e4 : (s.st == 0) = false := beq_eq_false_iff_ne.2 hs0
        clear h5 h6 hst hs0
        go_wp2_with fail
        refine (in_any s.st 0 2 _).mono ?_
        rw [H0.out]
        rintro e w2 ⟨rfl, rfl⟩
        go_wp2_with fail
        refine (pairsMay_any _ s.set 9 6 _ (HL.out.l1.step B0.out) (by omega)).mono ?_
        rw [H1.out]
        rintro e w3 ⟨rfl, hb3⟩
        have B1 := Lib.hid (bel_add' B0.out hb3 B0.out.size)
        have S1 := Lib.hid (S0.out.below hb3 S0.out.lt)
        have y0 := S1.out.cell (j := 2) (by simp)
        simp only [List.getElem_cons_zero, List.getElem_cons_succ] at y0
        have hb3 := Lib.hid hb3
        go_wp2_with fail
        refine (pairsMay_any _ s.prep 11 6 _ (HL.out.l2.step B1.out) (by omega)).mono ?_
        rw [H2.out]
        rintro e w4 ⟨rfl, hb4⟩
        have B2 := Lib.hid (bel_add' B1.out hb4 B1.out.size)
        have S2 := Lib.hid (S1.out.below hb4 S1.out.lt)
        have y1 := S2.out.cell (j := 3) (by simp)
        simp only [List.getElem_cons_zero, List.getElem_cons_succ] at y1
        have hb4 := Lib.hid hb4
        go_wp2_with fail
        refine (pairsMay_any _ s.sav 9 6 _ (HL.out.l3.step B2.out) (by omega)).mono ?_
        rw [H3.out]
        rintro e w5 ⟨rfl, hb5⟩
        have B3 := Lib.hid (bel_add' B2.out hb5 B2.out.size)
        have S3 := Lib.hid (S2.out.below hb5 S2.out.lt)
        have y2 := S3.out.cell (j := 4) (by simp)
        simp only [List.getElem_cons_zero, List.getElem_cons_succ] at y2
        have hb5 := Lib.hid hb5
        go_wp2_with fail
        refine (pairsMay_any _ s.wr 10 100 _ (HL.out.l4.step B3.out) (by omega)).mono ?_
        rw [H4.out]
        rintro e w6 ⟨rfl, hb6⟩
        have B4 := Lib.hid (bel_add' B3.out hb6 B3.out.size)
        have S4 := Lib.hid (S3.out.below hb6 S3.out.lt)
        have y3 := S4.out.cell (j := 0) (by simp)
        simp only [List.getElem_cons_zero, List.getElem_cons_succ] at y3
        have hb6 := Lib.hid hb6
        have z0 := S4.out.cell (j := 0) (by simp)
        have z3 := S4.out.cell (j := 3) (by simp)
        have z4 := S4.out.cell (j := 4) (by simp)
        simp only [List.getElem_cons_zero, List.getElem_cons_succ] at z0 z3 z4
        have HBB := Lib.hid (bel_add' (bel_add' (bel_add' (bel_add' ((Below.refl wr.heap.size wr).alloc (Nat.le_refl _) (.cells #[.int .i64 s.st, .slice A1 s.set.length c1, .slice A2 s.prep.length c2, .slice A3 s.sav.length c3, .slice A4 s.wr.length c4] 77)) hb3.out (by simp)) hb4.out (by have := hb3.out.size; simp at this; omega)) hb5.out (by have := hb3.out.size; have := hb4.out.size; simp at *; omega)) hb6.out (by have := hb3.out.size; have := hb4.out.size; have := hb5.out.size; simp at *; omega))
        go_wp2
        clear z0 z3 z4 y0 y1 y2 y3
        have hlt1 := S4.out.lt
        have X4 := Lib.hid (HX.out.below (HBB.out) HX.out.lt)
        go_loopw [5] (fun j wr1 => ∃ k : Nat, k ≤ s.wr.length ∧ j = .int .i64 k ∧ HeldRel w W (.slice D W.rows.length d) (.slice (some ⟨b, off, none⟩) W.ss.length c) i s.wr wr.heap.size [.int .i64 s.st, .slice A1 s.set.length c1, .slice A2 s.prep.length c2, .slice A3 s.sav.length c3, .slice A4 s.wr.length c4] k wr1) (fun j _ => s.wr.length - (intOf j).toNat)
        case atStart => exact ⟨0, by omega, rfl, fun j hj h => by omega, X4.out, S4.out, B4.out⟩
        case round =>
          rename World => wr1
          clear X4
          obtain ⟨k, hk, rfl, hfree, hbox, hsb, bel⟩ := hrel
          have q4 := hsb.cell (j := 4) (by simp)
          have q0 := hbox.cell (j := 0) (by simp)
          have q1 := hbox.cell (j := 1) (by simp)
          simp only [List.getElem_cons_zero, List.getElem_cons_succ] at q0 q1 q4
          have hl0 := hbox.lt
          have hl1 := hsb.lt
          have HF := Lib.hid hfree
          have HY := Lib.hid hbox
          have HZ := Lib.hid hsb
          have HV := Lib.hid bel
          clear hfree hbox hsb bel
          by_cases hlk : k < s.wr.length
          · obtain ⟨b', off', rfl, hb', m0, m1⟩ := HL.out.l4.pt hlk
            have n0 := (HV.out.cell (p := ⟨b', off' + k * 2, none⟩) hb').trans m0
            have hbw' : b' < wr1.heap.size := Nat.lt_of_lt_of_le hb' HV.out.size
            have HM := Lib.hid (List.getElem_mem hlk)
            have hkl : (k : Int) < (s.wr.length : Int) := by omega
            clear m0 m1
            go_wp2
            have kb := Below.refl wr1.heap.size wr1
            have dS := Lib.hid (show wr1.drew.cell? ⟨w.heap.size, 0, none⟩ = some (.slice D W.rows.length d) ∧ wr1.drew.cell? ⟨w.heap.size, 1, none⟩ = some (.slice (some ⟨b, off, none⟩) W.ss.length c) ∧ wr1.drew.cell? ⟨wr.heap.size, 4, none⟩ = some (.slice (some ⟨b', off', none⟩) s.wr.length c4) ∧ wr1.drew.cell? ⟨b', off' + k * 2, none⟩ = some (.string s.wr[k].1) from ⟨q0, q1, q4, n0⟩)
            go_region_held3 (fun wx => wx.cell? ⟨w.heap.size, 0, none⟩ = some (.slice D W.rows.length d) ∧ wx.cell? ⟨w.heap.size, 1, none⟩ = some (.slice (some ⟨b, off, none⟩) W.ss.length c) ∧ wx.cell? ⟨wr.heap.size, 4, none⟩ = some (.slice (some ⟨b', off', none⟩) s.wr.length c4) ∧ wx.cell? ⟨b', off' + k * 2, none⟩ = some (.string s.wr[k].1))
              (first
                | with_reducible exact ⟨q0, q1, q4, n0⟩
                | with_reducible exact dS.out
                | with_reducible exact ⟨(kb.cell (p := ⟨w.heap.size, 0, none⟩) hl0).trans q0, (kb.cell (p := ⟨w.heap.size, 1, none⟩) hl0).trans q1, (kb.cell (p := ⟨wr.heap.size, 4, none⟩) hl1).trans q4, (kb.cell (p := ⟨b', off' + k * 2, none⟩) hbw').trans n0⟩)
              (first
                | (
                  go_at_call 44
                  refine (isHeld_any _ _ W i s.wr[k].1 _ (by first | exact (HWW.out.step HV.out) | exact (HWW.out.step HV.out.drew) | exact (HWW.out.step (below_drewN HV.out _)))).mono ?_
                  rintro e w8 ⟨rfl, hy⟩
                  have kb : Below wr1.heap.size wr1 w8 := by first | exact kb.trans (hy.mono kb.size) | exact kb.trans ⟨hy.os, hy.tape, hy.output, hy.size, fun i hi => hy.block i (Nat.lt_of_lt_of_le hi kb.size)⟩))
            clear q0 q1 q4 n0
            have K8 := Lib.hid kb
            clear kb
            cases hh : heldB W.ss i s.wr[k].1
            · have HH := Lib.hid hh
              go_wp2
              go_roundw
              case rel => exact ⟨k + 1, by omega, by go_num, (fun j hj hjk => if e : j = k then by subst e; exact HH.out else HF.out j hj (by omega)), HY.out.below K8.out HY.out.lt, HZ.out.below K8.out HZ.out.lt, bel_add' HV.out K8.out HV.out.size⟩
              case measure => simp [intOf]; omega
            · have HP := Lib.hid (HW2.out _ HM.out hh)
              go_wp2
              go_ret
              exact ⟨by rw [HP.out]; rfl, bel_add' HV.out K8.out HV.out.size⟩
          · have HT := Lib.hid (HOK1.out ⟨HG.out, fun p hp => by
              obtain ⟨j, hj, rfl⟩ := List.getElem_of_mem hp
              exact HF.out j hj (by omega)⟩)
            go_wp2
            go_roundw
            case rel => exact ⟨i + 1, by omega, by go_num, HT.out, HY.out, HV.out⟩
            case measure => simp [intOf]; omega
    · have HL := Lib.hid (worldB_last HPB.out h8 (fun j hj => (HOK.out j hj (by omega)).1) (fun j hj => (HOK.out j hj (by omega)).2))
      have hr100 := (pairsB_rising HPB.out).2.1
      go_wp2_with fail
      refine (allRows_any _ _ W _ (HWW.out.step HB.out) hr100 h8 (fun j hj => (pairsB_rising (sessB_iff.1 (HOK.out j hj (by omega)).1).wr).2.1)).mono ?_
      rintro e w9 ⟨v9, rfl, ho9, hb9⟩
      obtain ⟨A9, c9, rfl⟩ := own_form ho9
      have b9 := bel_add' HB.out hb9 HB.out.size
      clear ho9
      go_wp2
      go_ret
      exact ⟨by rw [HL.out]; simp; omega, b9⟩
end Go.Proofs.YtpbaobmegomfpaaDoor
