/-
  Texts of the proof of BackDoes, one behind the other: RefMay2, InP, RefW, RefDid, RefDid2.
-/
import Derived.Test.YtpbaobmegomfpabDoorM2
import Derived.Test.YtpbaobmegomfpabDoorM4
import Derived.Test.YtpbaobmegomfpabDoorM1
import Derived.Deep.RegionHeld3
/-
  Walks of the reference's WorldMay.
-/
namespace Go.Proofs.YtpbaobmegomfpabDoor
open Go.RowKit
set_option linter.unusedVariables false
set_option linter.unusedSimpArgs false
set_option maxRecDepth 100000

/-- the first i sessions are as they should be -/
def OkTo (W : Wd) (i : Nat) : Prop := ∀ j (hj : j < W.ss.length), j < i → sessB W.ss[j] = true ∧ ∀ p ∈ W.ss[j].wr, heldB W.ss j p.1 = false
def MayRel (w : World) (W : Wd) (r s : Value) (i : Nat) (wr : World) : Prop := OkTo W i ∧ AllBox w r s wr ∧ Below w.heap.size w wr
def FreeTo (W : Wd) (i : Nat) (l : PL) (k : Nat) : Prop := ∀ j (hj : j < l.length), j < k → heldB W.ss i l[j].1 = false
def HeldRel (w : World) (W : Wd) (r s : Value) (i : Nat) (l : PL) (B : Nat) (vs : List Value) (k : Nat) (wr : World) : Prop := FreeTo W i l k ∧ AllBox w r s wr ∧ RowTo wr B 46 5 vs ∧ Below w.heap.size w wr
theorem sess_row {w : World} {v0 v1 v2 v3 v4 : Value} : RowTo (w.alloc (.cells #[v0, v1, v2, v3, v4] 46)) w.heap.size 46 5 [v0, v1, v2, v3, v4] := RowTo.whole w #[v0, v1, v2, v3, v4] 46
theorem own_form {w : World} {base t n : Nat} {v : Value} {xs : List Value} (h : w.ownsRow base t 2 v n xs) : ∃ A c, v = .slice A n c := by
  obtain ⟨_, ⟨hv, hn⟩ | ⟨g, cap, cur, hv, _⟩⟩ := h
  · exact ⟨none, 0, by rw [hv, hn]⟩
  · exact ⟨_, _, hv⟩
theorem st_idle {s : Sess} (h : ¬ (s.st = 0 ∧ 0 < s.sav.length)) : ((s.st == 0) && decide (0 < s.sav.length)) = false := by
  by_cases e : s.st = 0
  · rw [decide_eq_false (fun h1 => h ⟨e, h1⟩), Bool.and_false]
  · rw [beq_eq_false_iff_ne.2 e, Bool.false_and]

set_option maxHeartbeats 4000000 in
theorem worldMay_any (r s : Value) (W : Wd) (w : World) (hW : Wld w w.heap.size r s W) :
    Calls Tryd.prog 26 #[.agg #[r, s]] w fun e w' => e = .returned (.bool (worldB W)) ∧ Below w.heap.size w w' := by
  have HWW := Lib.hid hW
  obtain ⟨hr, hs⟩ := hW
  obtain ⟨A, c, rfl, hc⟩ := hs.form
  obtain ⟨D, d, rfl, hd⟩ := hr.form
  have hby := hs.bytes
  have HS := Lib.hid hs
  have HR := Lib.hid hr
  clear hs hr
  have b0 : Below w.heap.size w (w.alloc (.cells #[.slice D W.rows.length d, .slice A W.ss.length c] 25)) := (Below.refl _ _).alloc (Nat.le_refl _) _
  have HX := Lib.hid (RowTo.whole w #[.slice D W.rows.length d, .slice A W.ss.length c] 25)
  cases hp : pairsB W.rows 100 10
  · have HP := Lib.hid (worldB_rows hp)
    have HPB := Lib.hid hp
    clear hp
    go_enter Tryd.func26, Tryd.ntmps26
    go_wp2_with fail
    refine (pairsMay_any _ W.rows 10 100 _ (HR.out.step b0) (by omega)).mono ?_
    rw [HPB.out]
    rintro e w1 ⟨rfl, hb1⟩
    go_wp2
    go_ret
    exact ⟨by rw [HP.out]; rfl, bel_add' b0 hb1 b0.size⟩
  have HPB := Lib.hid hp
  clear hp
  by_cases h8 : W.ss.length ≤ 8
  case neg =>
    have HP := Lib.hid (worldB_many h8)
    have hd8 : decide ((8 : Int) < (W.ss.length : Int)) = true := decide_eq_true (by omega)
    have hd8' : decide (8 < W.ss.length) = true := decide_eq_true (by omega)
    go_enter Tryd.func26, Tryd.ntmps26
    go_wp2_with fail
    refine (pairsMay_any _ W.rows 10 100 _ (HR.out.step b0) (by omega)).mono ?_
    rw [HPB.out]
    rintro e w1 ⟨rfl, hb1⟩
    have HX1 := HX.out.below hb1 HX.out.lt
    have x1 := HX1.cell (j := 1) (by simp)
    simp only [List.getElem_cons_zero, List.getElem_cons_succ] at x1
    go_wp2
    go_ret
    exact ⟨by rw [HP.out]; rfl, bel_add' b0 hb1 b0.size⟩
  have hd8 : decide ((8 : Int) < (W.ss.length : Int)) = false := decide_eq_false (by omega)
  have hd8' : decide (8 < W.ss.length) = false := decide_eq_false (by omega)
  go_enter Tryd.func26, Tryd.ntmps26
  go_wp2_with fail
  refine (pairsMay_any _ W.rows 10 100 _ (HR.out.step b0) (by omega)).mono ?_
  rw [HPB.out]
  rintro e w1 ⟨rfl, hb1⟩
  have HX1 := HX.out.below hb1 HX.out.lt
  have x1 := HX1.cell (j := 1) (by simp)
  simp only [List.getElem_cons_zero, List.getElem_cons_succ] at x1
  have HXX := Lib.hid HX1
  have HBB := Lib.hid (bel_add' b0 hb1 b0.size)
  clear HX1 HX hb1
  go_wp2
  clear x1
  go_loopw [3] (fun i wr => ∃ k : Nat, k ≤ W.ss.length ∧ i = .int .i64 k ∧ MayRel w W (.slice D W.rows.length d) (.slice A W.ss.length c) k wr) (fun i _ => W.ss.length - (intOf i).toNat)
  case atStart => exact ⟨0, by omega, rfl, fun j hj h => by omega, HXX.out, HBB.out⟩
  case round =>
    clear HXX HBB b0
    obtain ⟨i, hi, rfl, hok, hbox, bel⟩ := hrel
    have x0 := hbox.cell (j := 0) (by simp)
    have x1 := hbox.cell (j := 1) (by simp)
    simp only [List.getElem_cons_zero, List.getElem_cons_succ] at x0 x1
    have hxl := hbox.lt
    have HOK := Lib.hid hok
    have HX := Lib.hid hbox
    have HB := Lib.hid bel
    clear hok hbox bel
    by_cases hlt : i < W.ss.length
    · obtain ⟨b, off, v1, v2, v3, v4, rfl, hb, hses⟩ := HS.out.pt hlt
      have HW1 := Lib.hid (fun h => worldB_sess (W := W) hlt h)
      have HW2 := Lib.hid (fun p hp h => worldB_held (W := W) hlt (p := p) hp h)
      have HOK1 := Lib.hid (fun (h : sessB W.ss[i] = true ∧ ∀ p ∈ W.ss[i].wr, heldB W.ss i p.1 = false) => (fun j hj hji => if e : j = i then by subst e; exact h else HOK.out j hj (by omega) : OkTo W (i + 1)))
      generalize hsk : W.ss[i] = s at *
      obtain ⟨d0, d1, d2, d3, d4, l1, l2, l3, l4⟩ := hses.keep (w' := wr) hb (Nat.le_refl _) fun p hp => HB.out.cell hp
      obtain ⟨A1, c1, rfl, _⟩ := l1.form
      obtain ⟨A2, c2, rfl, _⟩ := l2.form
      obtain ⟨A3, c3, rfl, _⟩ := l3.form
      obtain ⟨A4, c4, rfl, _⟩ := l4.form
      have HL := Lib.hid hses
      clear l1 l2 l3 l4 hses hsk
      have hbw : b < wr.heap.size := Nat.lt_of_lt_of_le hb HB.out.size
      have B0 := Lib.hid (HB.out.alloc HB.out.size (.cells #[.int .i64 s.st, .slice A1 s.set.length c1, .slice A2 s.prep.length c2, .slice A3 s.sav.length c3, .slice A4 s.wr.length c4] 46))
      have S0 := Lib.hid (sess_row (w := wr) (v0 := .int .i64 s.st) (v1 := .slice A1 s.set.length c1) (v2 := .slice A2 s.prep.length c2) (v3 := .slice A3 s.sav.length c3) (v4 := .slice A4 s.wr.length c4))
      cases h0 : inB 0 s.st 2
      · have HP := Lib.hid (HW1.out (sessB_st h0))
        have H0 := Lib.hid h0
        clear h0
        go_wp2_with fail
        refine (in_any s.st 0 2 _).mono ?_
        rw [H0.out]
        rintro e w2 ⟨rfl, rfl⟩
        go_wp2
        go_ret
        exact ⟨by rw [HP.out]; rfl, B0.out⟩
      have H0 := Lib.hid h0
      clear h0
      cases h1 : pairsB s.set 6 9
      · have HP := Lib.hid (HW1.out (sessB_set h1))
        have H1 := Lib.hid h1
        clear h1
        go_wp2_with fail
        refine (in_any s.st 0 2 _).mono ?_
        rw [H0.out]
        rintro e w2 ⟨rfl, rfl⟩
        go_wp2_with fail
        refine (pairsMay_any _ s.set 9 6 _ (HL.out.l1.step B0.out) (by omega)).mono ?_
        rw [H1.out]
        rintro e w3 ⟨rfl, hb3⟩
        have B1 := Lib.hid (bel_add' B0.out hb3 B0.out.size)
        have S1 := Lib.hid (S0.out.below hb3 S0.out.lt)
        have y0 := S1.out.cell (j := 2) (by simp)
        simp only [List.getElem_cons_zero, List.getElem_cons_succ] at y0
        clear hb3
        go_wp2
        go_ret
        exact ⟨by rw [HP.out]; rfl, B1.out⟩
      have H1 := Lib.hid h1
      clear h1
      cases h2 : pairsB s.prep 6 11
      · have HP := Lib.hid (HW1.out (sessB_prep h2))
        have H2 := Lib.hid h2
        clear h2
        go_wp2_with fail
        refine (in_any s.st 0 2 _).mono ?_
        rw [H0.out]
        rintro e w2 ⟨rfl, rfl⟩
        go_wp2_with fail
        refine (pairsMay_any _ s.set 9 6 _ (HL.out.l1.step B0.out) (by omega)).mono ?_
        rw [H1.out]
        rintro e w3 ⟨rfl, hb3⟩
        have B1 := Lib.hid (bel_add' B0.out hb3 B0.out.size)
        have S1 := Lib.hid (S0.out.below hb3 S0.out.lt)
        have y0 := S1.out.cell (j := 2) (by simp)
        simp only [List.getElem_cons_zero, List.getElem_cons_succ] at y0
        clear hb3
        go_wp2_with fail
        refine (pairsMay_any _ s.prep 11 6 _ (HL.out.l2.step B1.out) (by omega)).mono ?_
        rw [H2.out]
        rintro e w4 ⟨rfl, hb4⟩
        have B2 := Lib.hid (bel_add' B1.out hb4 B1.out.size)
        have S2 := Lib.hid (S1.out.below hb4 S1.out.lt)
        have y1 := S2.out.cell (j := 3) (by simp)
        simp only [List.getElem_cons_zero, List.getElem_cons_succ] at y1
        clear hb4
        go_wp2
        go_ret
        exact ⟨by rw [HP.out]; rfl, B2.out⟩
      have H2 := Lib.hid h2
      clear h2
      cases h3 : pairsB s.sav 6 9
      · have HP := Lib.hid (HW1.out (sessB_sav h3))
        have H3 := Lib.hid h3
        clear h3
        go_wp2_with fail
        refine (in_any s.st 0 2 _).mono ?_
        rw [H0.out]
        rintro e w2 ⟨rfl, rfl⟩
        go_wp2_with fail
        refine (pairsMay_any _ s.set 9 6 _ (HL.out.l1.step B0.out) (by omega)).mono ?_
        rw [H1.out]
        rintro e w3 ⟨rfl, hb3⟩
        have B1 := Lib.hid (bel_add' B0.out hb3 B0.out.size)
        have S1 := Lib.hid (S0.out.below hb3 S0.out.lt)
        have y0 := S1.out.cell (j := 2) (by simp)
        simp only [List.getElem_cons_zero, List.getElem_cons_succ] at y0
        clear hb3
        go_wp2_with fail
        refine (pairsMay_any _ s.prep 11 6 _ (HL.out.l2.step B1.out) (by omega)).mono ?_
        rw [H2.out]
        rintro e w4 ⟨rfl, hb4⟩
        have B2 := Lib.hid (bel_add' B1.out hb4 B1.out.size)
        have S2 := Lib.hid (S1.out.below hb4 S1.out.lt)
        have y1 := S2.out.cell (j := 3) (by simp)
        simp only [List.getElem_cons_zero, List.getElem_cons_succ] at y1
        clear hb4
        go_wp2_with fail
        refine (pairsMay_any _ s.sav 9 6 _ (HL.out.l3.step B2.out) (by omega)).mono ?_
        rw [H3.out]
        rintro e w5 ⟨rfl, hb5⟩
        have B3 := Lib.hid (bel_add' B2.out hb5 B2.out.size)
        have S3 := Lib.hid (S2.out.below hb5 S2.out.lt)
        have y2 := S3.out.cell (j := 4) (by simp)
        simp only [List.getElem_cons_zero, List.getElem_cons_succ] at y2
        clear hb5
        go_wp2
        go_ret
        exact ⟨by rw [HP.out]; rfl, B3.out⟩
      have H3 := Lib.hid h3
      clear h3
      cases h4 : pairsB s.wr 100 10
      · have HP := Lib.hid (HW1.out (sessB_wr h4))
        have H4 := Lib.hid h4
        clear h4
        go_wp2_with fail
        refine (in_any s.st 0 2 _).mono ?_
        rw [H0.out]
        rintro e w2 ⟨rfl, rfl⟩
        go_wp2_with fail
        refine (pairsMay_any _ s.set 9 6 _ (HL.out.l1.step B0.out) (by omega)).mono ?_
        rw [H1.out]
        rintro e w3 ⟨rfl, hb3⟩
        have B1 := Lib.hid (bel_add' B0.out hb3 B0.out.size)
        have S1 := Lib.hid (S0.out.below hb3 S0.out.lt)
        have y0 := S1.out.cell (j := 2) (by simp)
        simp only [List.getElem_cons_zero, List.getElem_cons_succ] at y0
        clear hb3
        go_wp2_with fail
        refine (pairsMay_any _ s.prep 11 6 _ (HL.out.l2.step B1.out) (by omega)).mono ?_
        rw [H2.out]
        rintro e w4 ⟨rfl, hb4⟩
        have B2 := Lib.hid (bel_add' B1.out hb4 B1.out.size)
        have S2 := Lib.hid (S1.out.below hb4 S1.out.lt)
        have y1 := S2.out.cell (j := 3) (by simp)
        simp only [List.getElem_cons_zero, List.getElem_cons_succ] at y1
        clear hb4
        go_wp2_with fail
        refine (pairsMay_any _ s.sav 9 6 _ (HL.out.l3.step B2.out) (by omega)).mono ?_
        rw [H3.out]
        rintro e w5 ⟨rfl, hb5⟩
        have B3 := Lib.hid (bel_add' B2.out hb5 B2.out.size)
        have S3 := Lib.hid (S2.out.below hb5 S2.out.lt)
        have y2 := S3.out.cell (j := 4) (by simp)
        simp only [List.getElem_cons_zero, List.getElem_cons_succ] at y2
        clear hb5
        go_wp2_with fail
        refine (pairsMay_any _ s.wr 10 100 _ (HL.out.l4.step B3.out) (by omega)).mono ?_
        rw [H4.out]
        rintro e w6 ⟨rfl, hb6⟩
        have B4 := Lib.hid (bel_add' B3.out hb6 B3.out.size)
        have S4 := Lib.hid (S3.out.below hb6 S3.out.lt)
        have y3 := S4.out.cell (j := 0) (by simp)
        simp only [List.getElem_cons_zero, List.getElem_cons_succ] at y3
        clear hb6
        go_wp2
        go_ret
        exact ⟨by rw [HP.out]; rfl, B4.out⟩
      have H4 := Lib.hid h4
      clear h4
      by_cases h5 : s.st = 0 ∧ 0 < s.sav.length
      · have HP := Lib.hid (HW1.out (sessB_idle h5.1 h5.2))
        have e1 : (s.st == 0) = true := beq_iff_eq.2 h5.1
        have e2 : decide ((0 : Int) < (s.sav.length : Int)) = true := decide_eq_true (by omega)
        have e3 : decide (0 < s.sav.length) = true := decide_eq_true h5.2
        clear h5
        go_wp2_with fail
        refine (in_any s.st 0 2 _).mono ?_
        rw [H0.out]
        rintro e w2 ⟨rfl, rfl⟩
        go_wp2_with fail
        refine (pairsMay_any _ s.set 9 6 _ (HL.out.l1.step B0.out) (by omega)).mono ?_
        rw [H1.out]
        rintro e w3 ⟨rfl, hb3⟩
        have B1 := Lib.hid (bel_add' B0.out hb3 B0.out.size)
        have S1 := Lib.hid (S0.out.below hb3 S0.out.lt)
        have y0 := S1.out.cell (j := 2) (by simp)
        simp only [List.getElem_cons_zero, List.getElem_cons_succ] at y0
        clear hb3
        go_wp2_with fail
        refine (pairsMay_any _ s.prep 11 6 _ (HL.out.l2.step B1.out) (by omega)).mono ?_
        rw [H2.out]
        rintro e w4 ⟨rfl, hb4⟩
        have B2 := Lib.hid (bel_add' B1.out hb4 B1.out.size)
        have S2 := Lib.hid (S1.out.below hb4 S1.out.lt)
        have y1 := S2.out.cell (j := 3) (by simp)
        simp only [List.getElem_cons_zero, List.getElem_cons_succ] at y1
        clear hb4
        go_wp2_with fail
        refine (pairsMay_any _ s.sav 9 6 _ (HL.out.l3.step B2.out) (by omega)).mono ?_
        rw [H3.out]
        rintro e w5 ⟨rfl, hb5⟩
        have B3 := Lib.hid (bel_add' B2.out hb5 B2.out.size)
        have S3 := Lib.hid (S2.out.below hb5 S2.out.lt)
        have y2 := S3.out.cell (j := 4) (by simp)
        simp only [List.getElem_cons_zero, List.getElem_cons_succ] at y2
        clear hb5
        go_wp2_with fail
        refine (pairsMay_any _ s.wr 10 100 _ (HL.out.l4.step B3.out) (by omega)).mono ?_
        rw [H4.out]
        rintro e w6 ⟨rfl, hb6⟩
        have B4 := Lib.hid (bel_add' B3.out hb6 B3.out.size)
        have S4 := Lib.hid (S3.out.below hb6 S3.out.lt)
        have y3 := S4.out.cell (j := 0) (by simp)
        simp only [List.getElem_cons_zero, List.getElem_cons_succ] at y3
        clear hb6
        have z3 := S4.out.cell (j := 3) (by simp)
        simp only [List.getElem_cons_zero, List.getElem_cons_succ] at z3
        go_wp2
        go_ret
        exact ⟨by rw [HP.out]; rfl, B4.out⟩
      by_cases h6 : s.st ≠ 1 ∧ 0 < s.wr.length
      · have HP := Lib.hid (HW1.out (sessB_tx h6.1 h6.2))
        have e1 : (s.st != 1) = true := bne_iff_ne.2 h6.1
        have e2 : decide ((0 : Int) < (s.wr.length : Int)) = true := decide_eq_true (by omega)
        have e3 : decide (0 < s.wr.length) = true := decide_eq_true h6.2
        by_cases hst : s.st = 0
        · have e4 : (s.st == 0) = true := beq_iff_eq.2 hst
          have e5 : decide ((0 : Int) < (s.sav.length : Int)) = false := decide_eq_false (fun h => h5 ⟨hst, by omega⟩)
          have e6 : decide (0 < s.sav.length) = false := decide_eq_false (fun h => h5 ⟨hst, h⟩)
          clear h5 h6 hst
          go_wp2_with fail
          refine (in_any s.st 0 2 _).mono ?_
          rw [H0.out]
          rintro e w2 ⟨rfl, rfl⟩
          go_wp2_with fail
          refine (pairsMay_any _ s.set 9 6 _ (HL.out.l1.step B0.out) (by omega)).mono ?_
          rw [H1.out]
          rintro e w3 ⟨rfl, hb3⟩
          have B1 := Lib.hid (bel_add' B0.out hb3 B0.out.size)
          have S1 := Lib.hid (S0.out.below hb3 S0.out.lt)
          have y0 := S1.out.cell (j := 2) (by simp)
          simp only [List.getElem_cons_zero, List.getElem_cons_succ] at y0
          clear hb3
          go_wp2_with fail
          refine (pairsMay_any _ s.prep 11 6 _ (HL.out.l2.step B1.out) (by omega)).mono ?_
          rw [H2.out]
          rintro e w4 ⟨rfl, hb4⟩
          have B2 := Lib.hid (bel_add' B1.out hb4 B1.out.size)
          have S2 := Lib.hid (S1.out.below hb4 S1.out.lt)
          have y1 := S2.out.cell (j := 3) (by simp)
          simp only [List.getElem_cons_zero, List.getElem_cons_succ] at y1
          clear hb4
          go_wp2_with fail
          refine (pairsMay_any _ s.sav 9 6 _ (HL.out.l3.step B2.out) (by omega)).mono ?_
          rw [H3.out]
          rintro e w5 ⟨rfl, hb5⟩
          have B3 := Lib.hid (bel_add' B2.out hb5 B2.out.size)
          have S3 := Lib.hid (S2.out.below hb5 S2.out.lt)
          have y2 := S3.out.cell (j := 4) (by simp)
          simp only [List.getElem_cons_zero, List.getElem_cons_succ] at y2
          clear hb5
          go_wp2_with fail
          refine (pairsMay_any _ s.wr 10 100 _ (HL.out.l4.step B3.out) (by omega)).mono ?_
          rw [H4.out]
          rintro e w6 ⟨rfl, hb6⟩
          have B4 := Lib.hid (bel_add' B3.out hb6 B3.out.size)
          have S4 := Lib.hid (S3.out.below hb6 S3.out.lt)
          have y3 := S4.out.cell (j := 0) (by simp)
          simp only [List.getElem_cons_zero, List.getElem_cons_succ] at y3
          clear hb6
          have z0 := S4.out.cell (j := 0) (by simp)
          have z3 := S4.out.cell (j := 3) (by simp)
          have z4 := S4.out.cell (j := 4) (by simp)
          simp only [List.getElem_cons_zero, List.getElem_cons_succ] at z0 z3 z4
          go_wp2
          go_ret
          exact ⟨by rw [HP.out]; rfl, B4.out⟩
        · have e4 : (s.st == 0) = false := beq_eq_false_iff_ne.2 hst
          clear h5 h6 hst
          go_wp2_with fail
          refine (in_any s.st 0 2 _).mono ?_
          rw [H0.out]
          rintro e w2 ⟨rfl, rfl⟩
          go_wp2_with fail
          refine (pairsMay_any _ s.set 9 6 _ (HL.out.l1.step B0.out) (by omega)).mono ?_
          rw [H1.out]
          rintro e w3 ⟨rfl, hb3⟩
          have B1 := Lib.hid (bel_add' B0.out hb3 B0.out.size)
          have S1 := Lib.hid (S0.out.below hb3 S0.out.lt)
          have y0 := S1.out.cell (j := 2) (by simp)
          simp only [List.getElem_cons_zero, List.getElem_cons_succ] at y0
          clear hb3
          go_wp2_with fail
          refine (pairsMay_any _ s.prep 11 6 _ (HL.out.l2.step B1.out) (by omega)).mono ?_
          rw [H2.out]
          rintro e w4 ⟨rfl, hb4⟩
          have B2 := Lib.hid (bel_add' B1.out hb4 B1.out.size)
          have S2 := Lib.hid (S1.out.below hb4 S1.out.lt)
          have y1 := S2.out.cell (j := 3) (by simp)
          simp only [List.getElem_cons_zero, List.getElem_cons_succ] at y1
          clear hb4
          go_wp2_with fail
          refine (pairsMay_any _ s.sav 9 6 _ (HL.out.l3.step B2.out) (by omega)).mono ?_
          rw [H3.out]
          rintro e w5 ⟨rfl, hb5⟩
          have B3 := Lib.hid (bel_add' B2.out hb5 B2.out.size)
          have S3 := Lib.hid (S2.out.below hb5 S2.out.lt)
          have y2 := S3.out.cell (j := 4) (by simp)
          simp only [List.getElem_cons_zero, List.getElem_cons_succ] at y2
          clear hb5
          go_wp2_with fail
          refine (pairsMay_any _ s.wr 10 100 _ (HL.out.l4.step B3.out) (by omega)).mono ?_
          rw [H4.out]
          rintro e w6 ⟨rfl, hb6⟩
          have B4 := Lib.hid (bel_add' B3.out hb6 B3.out.size)
          have S4 := Lib.hid (S3.out.below hb6 S3.out.lt)
          have y3 := S4.out.cell (j := 0) (by simp)
          simp only [List.getElem_cons_zero, List.getElem_cons_succ] at y3
          clear hb6
          have z0 := S4.out.cell (j := 0) (by simp)
          have z3 := S4.out.cell (j := 3) (by simp)
          have z4 := S4.out.cell (j := 4) (by simp)
          simp only [List.getElem_cons_zero, List.getElem_cons_succ] at z0 z3 z4
          go_wp2
          go_ret
          exact ⟨by rw [HP.out]; rfl, B4.out⟩
      have HG := Lib.hid (sessB_ok H0.out H1.out H2.out H3.out H4.out h5 h6)
      have hlw : s.wr.length ≤ 100 := (pairsB_rising H4.out).2.1
      by_cases hst : s.st = 1
      · have e1 : (s.st != 1) = false := by rw [hst]; rfl
        have e4 : (s.st == 0) = false := by rw [hst]; rfl
        clear h5 h6 hst
        go_wp2_with fail
        refine (in_any s.st 0 2 _).mono ?_
        rw [H0.out]
        rintro e w2 ⟨rfl, rfl⟩
        go_wp2_with fail
        refine (pairsMay_any _ s.set 9 6 _ (HL.out.l1.step B0.out) (by omega)).mono ?_
        rw [H1.out]
        rintro e w3 ⟨rfl, hb3⟩
        have B1 := Lib.hid (bel_add' B0.out hb3 B0.out.size)
        have S1 := Lib.hid (S0.out.below hb3 S0.out.lt)
        have y0 := S1.out.cell (j := 2) (by simp)
        simp only [List.getElem_cons_zero, List.getElem_cons_succ] at y0
        have hb3 := Lib.hid hb3
        go_wp2_with fail
        refine (pairsMay_any _ s.prep 11 6 _ (HL.out.l2.step B1.out) (by omega)).mono ?_
        rw [H2.out]
        rintro e w4 ⟨rfl, hb4⟩
        have B2 := Lib.hid (bel_add' B1.out hb4 B1.out.size)
        have S2 := Lib.hid (S1.out.below hb4 S1.out.lt)
        have y1 := S2.out.cell (j := 3) (by simp)
        simp only [List.getElem_cons_zero, List.getElem_cons_succ] at y1
        have hb4 := Lib.hid hb4
        go_wp2_with fail
        refine (pairsMay_any _ s.sav 9 6 _ (HL.out.l3.step B2.out) (by omega)).mono ?_
        rw [H3.out]
        rintro e w5 ⟨rfl, hb5⟩
        have B3 := Lib.hid (bel_add' B2.out hb5 B2.out.size)
        have S3 := Lib.hid (S2.out.below hb5 S2.out.lt)
        have y2 := S3.out.cell (j := 4) (by simp)
        simp only [List.getElem_cons_zero, List.getElem_cons_succ] at y2
        have hb5 := Lib.hid hb5
        go_wp2_with fail
        refine (pairsMay_any _ s.wr 10 100 _ (HL.out.l4.step B3.out) (by omega)).mono ?_
        rw [H4.out]
        rintro e w6 ⟨rfl, hb6⟩
        have B4 := Lib.hid (bel_add' B3.out hb6 B3.out.size)
        have S4 := Lib.hid (S3.out.below hb6 S3.out.lt)
        have y3 := S4.out.cell (j := 0) (by simp)
        simp only [List.getElem_cons_zero, List.getElem_cons_succ] at y3
        have hb6 := Lib.hid hb6
        have z0 := S4.out.cell (j := 0) (by simp)
        have z3 := S4.out.cell (j := 3) (by simp)
        have z4 := S4.out.cell (j := 4) (by simp)
        simp only [List.getElem_cons_zero, List.getElem_cons_succ] at z0 z3 z4
        have HBB := Lib.hid (bel_add' (bel_add' (bel_add' (bel_add' ((Below.refl wr.heap.size wr).alloc (Nat.le_refl _) (.cells #[.int .i64 s.st, .slice A1 s.set.length c1, .slice A2 s.prep.length c2, .slice A3 s.sav.length c3, .slice A4 s.wr.length c4] 46)) hb3.out (by simp)) hb4.out (by have := hb3.out.size; simp at this; omega)) hb5.out (by have := hb3.out.size; have := hb4.out.size; simp at *; omega)) hb6.out (by have := hb3.out.size; have := hb4.out.size; have := hb5.out.size; simp at *; omega))
        go_wp2
        clear z0 z3 z4 y0 y1 y2 y3
        have hlt1 := S4.out.lt
        have X4 := Lib.hid (HX.out.below (HBB.out) HX.out.lt)
        go_loopw [5] (fun j wr1 => ∃ k : Nat, k ≤ s.wr.length ∧ j = .int .i64 k ∧ HeldRel w W (.slice D W.rows.length d) (.slice (some ⟨b, off, none⟩) W.ss.length c) i s.wr wr.heap.size [.int .i64 s.st, .slice A1 s.set.length c1, .slice A2 s.prep.length c2, .slice A3 s.sav.length c3, .slice A4 s.wr.length c4] k wr1) (fun j _ => s.wr.length - (intOf j).toNat)
        case atStart => exact ⟨0, by omega, rfl, fun j hj h => by omega, X4.out, S4.out, B4.out⟩
        case round =>
          rename World => wr1
          clear X4
          obtain ⟨k, hk, rfl, hfree, hbox, hsb, bel⟩ := hrel
          have q4 := hsb.cell (j := 4) (by simp)
          have q0 := hbox.cell (j := 0) (by simp)
          have q1 := hbox.cell (j := 1) (by simp)
          simp only [List.getElem_cons_zero, List.getElem_cons_succ] at q0 q1 q4
          have hl0 := hbox.lt
          have hl1 := hsb.lt
          have HF := Lib.hid hfree
          have HY := Lib.hid hbox
          have HZ := Lib.hid hsb
          have HV := Lib.hid bel
          clear hfree hbox hsb bel
          by_cases hlk : k < s.wr.length
          · obtain ⟨b', off', rfl, hb', m0, m1⟩ := HL.out.l4.pt hlk
            have n0 := (HV.out.cell (p := ⟨b', off' + k * 2, none⟩) hb').trans m0
            have hbw' : b' < wr1.heap.size := Nat.lt_of_lt_of_le hb' HV.out.size
            have HM := Lib.hid (List.getElem_mem hlk)
            have hkl : (k : Int) < (s.wr.length : Int) := by omega
            clear m0 m1
            go_wp2
            have kb := Below.refl wr1.heap.size wr1
            have dS := Lib.hid (show wr1.drew.cell? ⟨w.heap.size, 0, none⟩ = some (.slice D W.rows.length d) ∧ wr1.drew.cell? ⟨w.heap.size, 1, none⟩ = some (.slice (some ⟨b, off, none⟩) W.ss.length c) ∧ wr1.drew.cell? ⟨wr.heap.size, 4, none⟩ = some (.slice (some ⟨b', off', none⟩) s.wr.length c4) ∧ wr1.drew.cell? ⟨b', off' + k * 2, none⟩ = some (.string s.wr[k].1) from ⟨q0, q1, q4, n0⟩)
            go_region_held3 (fun wx => wx.cell? ⟨w.heap.size, 0, none⟩ = some (.slice D W.rows.length d) ∧ wx.cell? ⟨w.heap.size, 1, none⟩ = some (.slice (some ⟨b, off, none⟩) W.ss.length c) ∧ wx.cell? ⟨wr.heap.size, 4, none⟩ = some (.slice (some ⟨b', off', none⟩) s.wr.length c4) ∧ wx.cell? ⟨b', off' + k * 2, none⟩ = some (.string s.wr[k].1))
              (first
                | with_reducible exact ⟨q0, q1, q4, n0⟩
                | with_reducible exact dS.out
                | with_reducible exact ⟨(kb.cell (p := ⟨w.heap.size, 0, none⟩) hl0).trans q0, (kb.cell (p := ⟨w.heap.size, 1, none⟩) hl0).trans q1, (kb.cell (p := ⟨wr.heap.size, 4, none⟩) hl1).trans q4, (kb.cell (p := ⟨b', off' + k * 2, none⟩) hbw').trans n0⟩)
              (first
                | (
                  go_at_call 48
                  refine (isHeld_any _ _ W i s.wr[k].1 _ (by first | exact (HWW.out.step HV.out) | exact (HWW.out.step HV.out.drew) | exact (HWW.out.step (below_drewN HV.out _)))).mono ?_
                  rintro e w8 ⟨rfl, hy⟩
                  have kb : Below wr1.heap.size wr1 w8 := by first | exact kb.trans (hy.mono kb.size) | exact kb.trans ⟨hy.os, hy.tape, hy.output, hy.size, fun i hi => hy.block i (Nat.lt_of_lt_of_le hi kb.size)⟩))
            clear q0 q1 q4 n0
            have K8 := Lib.hid kb
            clear kb
            cases hh : heldB W.ss i s.wr[k].1
            · have HH := Lib.hid hh
              go_wp2
              go_roundw
              case rel => exact ⟨k + 1, by omega, by go_num, (fun j hj hjk => if e : j = k then by subst e; exact HH.out else HF.out j hj (by omega)), HY.out.below K8.out HY.out.lt, HZ.out.below K8.out HZ.out.lt, bel_add' HV.out K8.out HV.out.size⟩
              case measure => simp [intOf]; omega
            · have HP := Lib.hid (HW2.out _ HM.out hh)
              go_wp2
              go_ret
              exact ⟨by rw [HP.out]; rfl, bel_add' HV.out K8.out HV.out.size⟩
          · have HT := Lib.hid (HOK1.out ⟨HG.out, fun p hp => by
              obtain ⟨j, hj, rfl⟩ := List.getElem_of_mem hp
              exact HF.out j hj (by omega)⟩)
            go_wp2
            go_roundw
            case rel => exact ⟨i + 1, by omega, by go_num, HT.out, HY.out, HV.out⟩
            case measure => simp [intOf]; omega
      have e1 : (s.st != 1) = true := bne_iff_ne.2 hst
      have e2 : decide ((0 : Int) < (s.wr.length : Int)) = false := decide_eq_false (fun h => h6 ⟨hst, by omega⟩)
      have e3 : decide (0 < s.wr.length) = false := decide_eq_false (fun h => h6 ⟨hst, h⟩)
      by_cases hs0 : s.st = 0
      · have e4 : (s.st == 0) = true := beq_iff_eq.2 hs0
        have e5 : decide ((0 : Int) < (s.sav.length : Int)) = false := decide_eq_false (fun h => h5 ⟨hs0, by omega⟩)
        have e6 : decide (0 < s.sav.length) = false := decide_eq_false (fun h => h5 ⟨hs0, h⟩)
        clear h5 h6 hst hs0
        go_wp2_with fail
        refine (in_any s.st 0 2 _).mono ?_
        rw [H0.out]
        rintro e w2 ⟨rfl, rfl⟩
        go_wp2_with fail
        refine (pairsMay_any _ s.set 9 6 _ (HL.out.l1.step B0.out) (by omega)).mono ?_
        rw [H1.out]
        rintro e w3 ⟨rfl, hb3⟩
        have B1 := Lib.hid (bel_add' B0.out hb3 B0.out.size)
        have S1 := Lib.hid (S0.out.below hb3 S0.out.lt)
        have y0 := S1.out.cell (j := 2) (by simp)
        simp only [List.getElem_cons_zero, List.getElem_cons_succ] at y0
        have hb3 := Lib.hid hb3
        go_wp2_with fail
        refine (pairsMay_any _ s.prep 11 6 _ (HL.out.l2.step B1.out) (by omega)).mono ?_
        rw [H2.out]
        rintro e w4 ⟨rfl, hb4⟩
        have B2 := Lib.hid (bel_add' B1.out hb4 B1.out.size)
        have S2 := Lib.hid (S1.out.below hb4 S1.out.lt)
        have y1 := S2.out.cell (j := 3) (by simp)
        simp only [List.getElem_cons_zero, List.getElem_cons_succ] at y1
        have hb4 := Lib.hid hb4
        go_wp2_with fail
        refine (pairsMay_any _ s.sav 9 6 _ (HL.out.l3.step B2.out) (by omega)).mono ?_
        rw [H3.out]
        rintro e w5 ⟨rfl, hb5⟩
        have B3 := Lib.hid (bel_add' B2.out hb5 B2.out.size)
        have S3 := Lib.hid (S2.out.below hb5 S2.out.lt)
        have y2 := S3.out.cell (j := 4) (by simp)
        simp only [List.getElem_cons_zero, List.getElem_cons_succ] at y2
        have hb5 := Lib.hid hb5
        go_wp2_with fail
        refine (pairsMay_any _ s.wr 10 100 _ (HL.out.l4.step B3.out) (by omega)).mono ?_
        rw [H4.out]
        rintro e w6 ⟨rfl, hb6⟩
        have B4 := Lib.hid (bel_add' B3.out hb6 B3.out.size)
        have S4 := Lib.hid (S3.out.below hb6 S3.out.lt)
        have y3 := S4.out.cell (j := 0) (by simp)
        simp only [List.getElem_cons_zero, List.getElem_cons_succ] at y3
        have hb6 := Lib.hid hb6
        have z0 := S4.out.cell (j := 0) (by simp)
        have z3 := S4.out.cell (j := 3) (by simp)
        have z4 := S4.out.cell (j := 4) (by simp)
        simp only [List.getElem_cons_zero, List.getElem_cons_succ] at z0 z3 z4
        have HBB := Lib.hid (bel_add' (bel_add' (bel_add' (bel_add' ((Below.refl wr.heap.size wr).alloc (Nat.le_refl _) (.cells #[.int .i64 s.st, .slice A1 s.set.length c1, .slice A2 s.prep.length c2, .slice A3 s.sav.length c3, .slice A4 s.wr.length c4] 46)) hb3.out (by simp)) hb4.out (by have := hb3.out.size; simp at this; omega)) hb5.out (by have := hb3.out.size; have := hb4.out.size; simp at *; omega)) hb6.out (by have := hb3.out.size; have := hb4.out.size; have := hb5.out.size; simp at *; omega))
        go_wp2
        clear z0 z3 z4 y0 y1 y2 y3
        have hlt1 := S4.out.lt
        have X4 := Lib.hid (HX.out.below (HBB.out) HX.out.lt)
        go_loopw [5] (fun j wr1 => ∃ k : Nat, k ≤ s.wr.length ∧ j = .int .i64 k ∧ HeldRel w W (.slice D W.rows.length d) (.slice (some ⟨b, off, none⟩) W.ss.length c) i s.wr wr.heap.size [.int .i64 s.st, .slice A1 s.set.length c1, .slice A2 s.prep.length c2, .slice A3 s.sav.length c3, .slice A4 s.wr.length c4] k wr1) (fun j _ => s.wr.length - (intOf j).toNat)
        case atStart => exact ⟨0, by omega, rfl, fun j hj h => by omega, X4.out, S4.out, B4.out⟩
        case round =>
          rename World => wr1
          clear X4
          obtain ⟨k, hk, rfl, hfree, hbox, hsb, bel⟩ := hrel
          have q4 := hsb.cell (j := 4) (by simp)
          have q0 := hbox.cell (j := 0) (by simp)
          have q1 := hbox.cell (j := 1) (by simp)
          simp only [List.getElem_cons_zero, List.getElem_cons_succ] at q0 q1 q4
          have hl0 := hbox.lt
          have hl1 := hsb.lt
          have HF := Lib.hid hfree
          have HY := Lib.hid hbox
          have HZ := Lib.hid hsb
          have HV := Lib.hid bel
          clear hfree hbox hsb bel
          by_cases hlk : k < s.wr.length
          · obtain ⟨b', off', rfl, hb', m0, m1⟩ := HL.out.l4.pt hlk
            have n0 := (HV.out.cell (p := ⟨b', off' + k * 2, none⟩) hb').trans m0
            have hbw' : b' < wr1.heap.size := Nat.lt_of_lt_of_le hb' HV.out.size
            have HM := Lib.hid (List.getElem_mem hlk)
            have hkl : (k : Int) < (s.wr.length : Int) := by omega
            clear m0 m1
            go_wp2
            have kb := Below.refl wr1.heap.size wr1
            have dS := Lib.hid (show wr1.drew.cell? ⟨w.heap.size, 0, none⟩ = some (.slice D W.rows.length d) ∧ wr1.drew.cell? ⟨w.heap.size, 1, none⟩ = some (.slice (some ⟨b, off, none⟩) W.ss.length c) ∧ wr1.drew.cell? ⟨wr.heap.size, 4, none⟩ = some (.slice (some ⟨b', off', none⟩) s.wr.length c4) ∧ wr1.drew.cell? ⟨b', off' + k * 2, none⟩ = some (.string s.wr[k].1) from ⟨q0, q1, q4, n0⟩)
            go_region_held3 (fun wx => wx.cell? ⟨w.heap.size, 0, none⟩ = some (.slice D W.rows.length d) ∧ wx.cell? ⟨w.heap.size, 1, none⟩ = some (.slice (some ⟨b, off, none⟩) W.ss.length c) ∧ wx.cell? ⟨wr.heap.size, 4, none⟩ = some (.slice (some ⟨b', off', none⟩) s.wr.length c4) ∧ wx.cell? ⟨b', off' + k * 2, none⟩ = some (.string s.wr[k].1))
              (first
                | with_reducible exact ⟨q0, q1, q4, n0⟩
                | with_reducible exact dS.out
                | with_reducible exact ⟨(kb.cell (p := ⟨w.heap.size, 0, none⟩) hl0).trans q0, (kb.cell (p := ⟨w.heap.size, 1, none⟩) hl0).trans q1, (kb.cell (p := ⟨wr.heap.size, 4, none⟩) hl1).trans q4, (kb.cell (p := ⟨b', off' + k * 2, none⟩) hbw').trans n0⟩)
              (first
                | (
                  go_at_call 48
                  refine (isHeld_any _ _ W i s.wr[k].1 _ (by first | exact (HWW.out.step HV.out) | exact (HWW.out.step HV.out.drew) | exact (HWW.out.step (below_drewN HV.out _)))).mono ?_
                  rintro e w8 ⟨rfl, hy⟩
                  have kb : Below wr1.heap.size wr1 w8 := by first | exact kb.trans (hy.mono kb.size) | exact kb.trans ⟨hy.os, hy.tape, hy.output, hy.size, fun i hi => hy.block i (Nat.lt_of_lt_of_le hi kb.size)⟩))
            clear q0 q1 q4 n0
            have K8 := Lib.hid kb
            clear kb
            cases hh : heldB W.ss i s.wr[k].1
            · have HH := Lib.hid hh
              go_wp2
              go_roundw
              case rel => exact ⟨k + 1, by omega, by go_num, (fun j hj hjk => if e : j = k then by subst e; exact HH.out else HF.out j hj (by omega)), HY.out.below K8.out HY.out.lt, HZ.out.below K8.out HZ.out.lt, bel_add' HV.out K8.out HV.out.size⟩
              case measure => simp [intOf]; omega
            · have HP := Lib.hid (HW2.out _ HM.out hh)
              go_wp2
              go_ret
              exact ⟨by rw [HP.out]; rfl, bel_add' HV.out K8.out HV.out.size⟩
          · have HT := Lib.hid (HOK1.out ⟨HG.out, fun p hp => by
              obtain ⟨j, hj, rfl⟩ := List.getElem_of_mem hp
              exact HF.out j hj (by omega)⟩)
            go_wp2
            go_roundw
            case rel => exact ⟨i + 1, by omega, by go_num, HT.out, HY.out, HV.out⟩
            case measure => simp [intOf]; omega
      · have e4 : (s.st == 0) = false := beq_eq_false_iff_ne.2 hs0
        clear h5 h6 hst hs0
        go_wp2_with fail
        refine (in_any s.st 0 2 _).mono ?_
        rw [H0.out]
        rintro e w2 ⟨rfl, rfl⟩
        go_wp2_with fail
        refine (pairsMay_any _ s.set 9 6 _ (HL.out.l1.step B0.out) (by omega)).mono ?_
        rw [H1.out]
        rintro e w3 ⟨rfl, hb3⟩
        have B1 := Lib.hid (bel_add' B0.out hb3 B0.out.size)
        have S1 := Lib.hid (S0.out.below hb3 S0.out.lt)
        have y0 := S1.out.cell (j := 2) (by simp)
        simp only [List.getElem_cons_zero, List.getElem_cons_succ] at y0
        have hb3 := Lib.hid hb3
        go_wp2_with fail
        refine (pairsMay_any _ s.prep 11 6 _ (HL.out.l2.step B1.out) (by omega)).mono ?_
        rw [H2.out]
        rintro e w4 ⟨rfl, hb4⟩
        have B2 := Lib.hid (bel_add' B1.out hb4 B1.out.size)
        have S2 := Lib.hid (S1.out.below hb4 S1.out.lt)
        have y1 := S2.out.cell (j := 3) (by simp)
        simp only [List.getElem_cons_zero, List.getElem_cons_succ] at y1
        have hb4 := Lib.hid hb4
        go_wp2_with fail
        refine (pairsMay_any _ s.sav 9 6 _ (HL.out.l3.step B2.out) (by omega)).mono ?_
        rw [H3.out]
        rintro e w5 ⟨rfl, hb5⟩
        have B3 := Lib.hid (bel_add' B2.out hb5 B2.out.size)
        have S3 := Lib.hid (S2.out.below hb5 S2.out.lt)
        have y2 := S3.out.cell (j := 4) (by simp)
        simp only [List.getElem_cons_zero, List.getElem_cons_succ] at y2
        have hb5 := Lib.hid hb5
        go_wp2_with fail
        refine (pairsMay_any _ s.wr 10 100 _ (HL.out.l4.step B3.out) (by omega)).mono ?_
        rw [H4.out]
        rintro e w6 ⟨rfl, hb6⟩
        have B4 := Lib.hid (bel_add' B3.out hb6 B3.out.size)
        have S4 := Lib.hid (S3.out.below hb6 S3.out.lt)
        have y3 := S4.out.cell (j := 0) (by simp)
        simp only [List.getElem_cons_zero, List.getElem_cons_succ] at y3
        have hb6 := Lib.hid hb6
        have z0 := S4.out.cell (j := 0) (by simp)
        have z3 := S4.out.cell (j := 3) (by simp)
        have z4 := S4.out.cell (j := 4) (by simp)
        simp only [List.getElem_cons_zero, List.getElem_cons_succ] at z0 z3 z4
        have HBB := Lib.hid (bel_add' (bel_add' (bel_add' (bel_add' ((Below.refl wr.heap.size wr).alloc (Nat.le_refl _) (.cells #[.int .i64 s.st, .slice A1 s.set.length c1, .slice A2 s.prep.length c2, .slice A3 s.sav.length c3, .slice A4 s.wr.length c4] 46)) hb3.out (by simp)) hb4.out (by have := hb3.out.size; simp at this; omega)) hb5.out (by have := hb3.out.size; have := hb4.out.size; simp at *; omega)) hb6.out (by have := hb3.out.size; have := hb4.out.size; have := hb5.out.size; simp at *; omega))
        go_wp2
        clear z0 z3 z4 y0 y1 y2 y3
        have hlt1 := S4.out.lt
        have X4 := Lib.hid (HX.out.below (HBB.out) HX.out.lt)
        go_loopw [5] (fun j wr1 => ∃ k : Nat, k ≤ s.wr.length ∧ j = .int .i64 k ∧ HeldRel w W (.slice D W.rows.length d) (.slice (some ⟨b, off, none⟩) W.ss.length c) i s.wr wr.heap.size [.int .i64 s.st, .slice A1 s.set.length c1, .slice A2 s.prep.length c2, .slice A3 s.sav.length c3, .slice A4 s.wr.length c4] k wr1) (fun j _ => s.wr.length - (intOf j).toNat)
        case atStart => exact ⟨0, by omega, rfl, fun j hj h => by omega, X4.out, S4.out, B4.out⟩
        case round =>
          rename World => wr1
          clear X4
          obtain ⟨k, hk, rfl, hfree, hbox, hsb, bel⟩ := hrel
          have q4 := hsb.cell (j := 4) (by simp)
          have q0 := hbox.cell (j := 0) (by simp)
          have q1 := hbox.cell (j := 1) (by simp)
          simp only [List.getElem_cons_zero, List.getElem_cons_succ] at q0 q1 q4
          have hl0 := hbox.lt
          have hl1 := hsb.lt
          have HF := Lib.hid hfree
          have HY := Lib.hid hbox
          have HZ := Lib.hid hsb
          have HV := Lib.hid bel
          clear hfree hbox hsb bel
          by_cases hlk : k < s.wr.length
          · obtain ⟨b', off', rfl, hb', m0, m1⟩ := HL.out.l4.pt hlk
            have n0 := (HV.out.cell (p := ⟨b', off' + k * 2, none⟩) hb').trans m0
            have hbw' : b' < wr1.heap.size := Nat.lt_of_lt_of_le hb' HV.out.size
            have HM := Lib.hid (List.getElem_mem hlk)
            have hkl : (k : Int) < (s.wr.length : Int) := by omega
            clear m0 m1
            go_wp2
            have kb := Below.refl wr1.heap.size wr1
            have dS := Lib.hid (show wr1.drew.cell? ⟨w.heap.size, 0, none⟩ = some (.slice D W.rows.length d) ∧ wr1.drew.cell? ⟨w.heap.size, 1, none⟩ = some (.slice (some ⟨b, off, none⟩) W.ss.length c) ∧ wr1.drew.cell? ⟨wr.heap.size, 4, none⟩ = some (.slice (some ⟨b', off', none⟩) s.wr.length c4) ∧ wr1.drew.cell? ⟨b', off' + k * 2, none⟩ = some (.string s.wr[k].1) from ⟨q0, q1, q4, n0⟩)
            go_region_held3 (fun wx => wx.cell? ⟨w.heap.size, 0, none⟩ = some (.slice D W.rows.length d) ∧ wx.cell? ⟨w.heap.size, 1, none⟩ = some (.slice (some ⟨b, off, none⟩) W.ss.length c) ∧ wx.cell? ⟨wr.heap.size, 4, none⟩ = some (.slice (some ⟨b', off', none⟩) s.wr.length c4) ∧ wx.cell? ⟨b', off' + k * 2, none⟩ = some (.string s.wr[k].1))
              (first
                | with_reducible exact ⟨q0, q1, q4, n0⟩
                | with_reducible exact dS.out
                | with_reducible exact ⟨(kb.cell (p := ⟨w.heap.size, 0, none⟩) hl0).trans q0, (kb.cell (p := ⟨w.heap.size, 1, none⟩) hl0).trans q1, (kb.cell (p := ⟨wr.heap.size, 4, none⟩) hl1).trans q4, (kb.cell (p := ⟨b', off' + k * 2, none⟩) hbw').trans n0⟩)
              (first
                | (
                  go_at_call 48
                  refine (isHeld_any _ _ W i s.wr[k].1 _ (by first | exact (HWW.out.step HV.out) | exact (HWW.out.step HV.out.drew) | exact (HWW.out.step (below_drewN HV.out _)))).mono ?_
                  rintro e w8 ⟨rfl, hy⟩
                  have kb : Below wr1.heap.size wr1 w8 := by first | exact kb.trans (hy.mono kb.size) | exact kb.trans ⟨hy.os, hy.tape, hy.output, hy.size, fun i hi => hy.block i (Nat.lt_of_lt_of_le hi kb.size)⟩))
            clear q0 q1 q4 n0
            have K8 := Lib.hid kb
            clear kb
            cases hh : heldB W.ss i s.wr[k].1
            · have HH := Lib.hid hh
              go_wp2
              go_roundw
              case rel => exact ⟨k + 1, by omega, by go_num, (fun j hj hjk => if e : j = k then by subst e; exact HH.out else HF.out j hj (by omega)), HY.out.below K8.out HY.out.lt, HZ.out.below K8.out HZ.out.lt, bel_add' HV.out K8.out HV.out.size⟩
              case measure => simp [intOf]; omega
            · have HP := Lib.hid (HW2.out _ HM.out hh)
              go_wp2
              go_ret
              exact ⟨by rw [HP.out]; rfl, bel_add' HV.out K8.out HV.out.size⟩
          · have HT := Lib.hid (HOK1.out ⟨HG.out, fun p hp => by
              obtain ⟨j, hj, rfl⟩ := List.getElem_of_mem hp
              exact HF.out j hj (by omega)⟩)
            go_wp2
            go_roundw
            case rel => exact ⟨i + 1, by omega, by go_num, HT.out, HY.out, HV.out⟩
            case measure => simp [intOf]; omega
    · have HL := Lib.hid (worldB_last HPB.out h8 (fun j hj => (HOK.out j hj (by omega)).1) (fun j hj => (HOK.out j hj (by omega)).2))
      have hr100 := (pairsB_rising HPB.out).2.1
      go_wp2_with fail
      refine (allRows_any _ _ W _ (HWW.out.step HB.out) hr100 h8 (fun j hj => (pairsB_rising (sessB_iff.1 (HOK.out j hj (by omega)).1).wr).2.1)).mono ?_
      rintro e w9 ⟨v9, rfl, ho9, hb9⟩
      obtain ⟨A9, c9, rfl⟩ := own_form ho9
      have b9 := bel_add' HB.out hb9 HB.out.size
      clear ho9
      go_wp2
      go_ret
      exact ⟨by rw [HL.out]; simp; omega, b9⟩
end Go.Proofs.YtpbaobmegomfpabDoor

/-
  Lists that lie in blocks of which something holds.
-/
namespace Go.Proofs.YtpbaobmegomfpabDoor
open Go.RowKit
set_option linter.unusedVariables false

/-- a list that is not empty lies in a block of which P holds -/
def InP (P : Nat → Prop) (v : Value) (l : PL) : Prop := 0 < l.length → ∀ b off n c, v = .slice (some ⟨b, off, none⟩) n c → P b
theorem Lst.keepP {w w' : World} {B B' : Nat} {v : Value} {l : PL} {P : Nat → Prop} (h : Lst w B v l) (hp : InP P v l) (hk : ∀ b, P b → w'.heap[b]? = w.heap[b]?) (hB : ∀ b, P b → b < B') : Lst w' B' v l := by
  refine ⟨h.form, h.bytes, h.sizes, fun hn => ?_, h.nil⟩
  obtain ⟨b, off, c, e, hb, hc⟩ := h.cells hn
  have hP := hp hn b off _ c e
  exact ⟨b, off, c, e, hB b hP, fun i hi => ⟨(World.cell?_of_block (hk b hP)).trans (hc i hi).1, (World.cell?_of_block (hk b hP)).trans (hc i hi).2⟩⟩
theorem InP.mono {P Q : Nat → Prop} {v : Value} {l : PL} (h : InP P v l) (hpq : ∀ b, P b → Q b) : InP Q v l := fun hn b off n c e => hpq b (h hn b off n c e)
theorem Lst.inP {w : World} {B : Nat} {v : Value} {l : PL} (h : Lst w B v l) : InP (· < B) v l := fun hn b off n c e => by
  obtain ⟨b', off', c', e', hb, _⟩ := h.cells hn
  rw [e'] at e
  injection e with e
  injection e with e
  injection e with e
  rw [← e]; exact hb
theorem InP.and {P Q : Nat → Prop} {v : Value} {l : PL} (h : InP P v l) (h2 : InP Q v l) : InP (fun b => P b ∧ Q b) v l := fun hn b off n c e => ⟨h hn b off n c e, h2 hn b off n c e⟩
theorem InP.nil_ (P : Nat → Prop) (v : Value) : InP P v [] := fun h => absurd h (by simp)
/-- a list that a call made lies in a new block -/
theorem own_inP {w : World} {base t : Nat} {v : Value} {l : PL} (h : w.ownsRow base t 2 v l.length (flat l)) : InP (fun b => base ≤ b ∧ b < w.heap.size) v l := fun hn b off n c e => by
  obtain ⟨hl, h1 | ⟨g, cap, cur, hv, hg, hh, _⟩⟩ := h
  · rw [h1.1] at e; injection e with e; cases e
  · rw [hv] at e
    injection e with e
    injection e with e
    injection e with e
    rw [← e]
    exact ⟨hg, (Array.getElem?_eq_some_iff.1 hh).1⟩
theorem own_lt {w : World} {B : Nat} {v : Value} {l : PL} {P : Nat → Prop} (h : Lst w B v l) (hp : InP P v l) : InP (fun b => P b ∧ b < B) v l := hp.and h.inP

end Go.Proofs.YtpbaobmegomfpabDoor

/-
  The reference's world, whose sessions lie in one block that it writes to.
-/
namespace Go.Proofs.YtpbaobmegomfpabDoor
open Go.RowKit
set_option linter.unusedVariables false
set_option linter.unusedSimpArgs false
set_option maxRecDepth 100000

/-- a session whose lists lie where P holds -/
structure SesP (w : World) (P : Nat → Prop) (B b o : Nat) (s : Sess) (v1 v2 v3 v4 : Value) : Prop where
  core : Ses w B b o s v1 v2 v3 v4
  p1 : InP P v1 s.set
  p2 : InP P v2 s.prep
  p3 : InP P v3 s.sav
  p4 : InP P v4 s.wr
/-- a world whose sessions lie in block S -/
structure RefW (w : World) (base S cap : Nat) (r : Value) (W : Wd) : Prop where
  rows : Lst w w.heap.size r W.rows
  rin : InP (· ≠ S) r W.rows
  blk : RowTo w S 46 (cap * 5) []
  len : W.ss.length ≤ cap
  bytes : W.ss.length * 104 ≤ 140737488351232
  ses : ∀ i (h : i < W.ss.length), ∃ v1 v2 v3 v4, SesP w (· ≠ S) w.heap.size S (i * 5) W.ss[i] v1 v2 v3 v4
  lo : base ≤ S
theorem RefW.wld {w : World} {base S cap : Nat} {r : Value} {W : Wd} (h : RefW w base S cap r W) : Wld w w.heap.size r (slc S W.ss.length cap) W := by
  refine ⟨h.rows, ⟨_, _, rfl, h.len⟩, h.bytes, fun _ => ⟨S, 0, cap, rfl, h.blk.lt, fun i hi => ?_⟩⟩
  obtain ⟨v1, v2, v3, v4, hs⟩ := h.ses i hi
  rw [Nat.zero_add]
  exact ⟨v1, v2, v3, v4, hs.core⟩
/-- only new blocks have come -/
theorem RefW.below {w w' : World} {base S cap : Nat} {r : Value} {W : Wd} (h : RefW w base S cap r W) (hb : Below w.heap.size w w') : RefW w' base S cap r W := by
  refine ⟨h.rows.step hb, h.rin, h.blk.below hb h.blk.lt, h.len, h.bytes, fun i hi => ?_, h.lo⟩
  obtain ⟨v1, v2, v3, v4, hs⟩ := h.ses i hi
  exact ⟨v1, v2, v3, v4, hs.core.keep h.blk.lt hb.size (fun p hp => hb.cell hp), hs.p1, hs.p2, hs.p3, hs.p4⟩
/-- of what was there only block S has turned, in one session -/
theorem RefW.put {w w' : World} {base S cap : Nat} {r r' : Value} {W : Wd} {rows' : PL} {s' : Sess} {v1 v2 v3 v4 : Value} (h : RefW w base S cap r W) {i : Nat} (hi : i < W.ss.length) (hsz : w.heap.size ≤ w'.heap.size)
    (hk : ∀ b, b < w.heap.size → b ≠ S → w'.heap[b]? = w.heap[b]?) (hblk : RowTo w' S 46 (cap * 5) [])
    (hc : ∀ j, j < i * 5 ∨ i * 5 + 4 < j → w'.cell? ⟨S, j, none⟩ = w.cell? ⟨S, j, none⟩)
    (hr : Lst w' w'.heap.size r' rows') (hrin : InP (· ≠ S) r' rows') (hs : SesP w' (· ≠ S) w'.heap.size S (i * 5) s' v1 v2 v3 v4) : RefW w' base S cap r' ⟨rows', W.ss.set i s'⟩ := by
  have hl : (W.ss.set i s').length = W.ss.length := List.length_set
  refine ⟨hr, hrin, hblk, by rw [hl]; exact h.len, by rw [hl]; exact h.bytes, fun k hk' => ?_, h.lo⟩
  rw [hl] at hk'
  by_cases e : i = k
  · subst e
    simp only [List.getElem_set_self]
    exact ⟨v1, v2, v3, v4, hs⟩
  · simp only [List.getElem_set_ne e]
    obtain ⟨u1, u2, u3, u4, z⟩ := h.ses k hk'
    have c : ∀ j, j < 5 → w'.cell? ⟨S, k * 5 + j, none⟩ = w.cell? ⟨S, k * 5 + j, none⟩ := fun j hj => hc _ (by omega)
    have ll : ∀ {v : Value} {l : PL}, Lst w w.heap.size v l → InP (· ≠ S) v l → Lst w' w'.heap.size v l := fun a b => a.keepP (own_lt a b) (fun x hx => hk x hx.2 hx.1) (fun x hx => Nat.lt_of_lt_of_le hx.2 hsz)
    exact ⟨u1, u2, u3, u4, ⟨(c 0 (by omega)).trans z.core.c0, (c 1 (by omega)).trans z.core.c1, (c 2 (by omega)).trans z.core.c2, (c 3 (by omega)).trans z.core.c3, (c 4 (by omega)).trans z.core.c4, ll z.core.l1 z.p1, ll z.core.l2 z.p2, ll z.core.l3 z.p3, ll z.core.l4 z.p4⟩, z.p1, z.p2, z.p3, z.p4⟩

theorem no_any (t : ByteArray) (w : World) :
    Calls Tryd.prog 67 #[.string t] w fun e w' => e = .returned (ansV 4 t) ∧ Below w.heap.size w w' := by
  go_enter Tryd.func67, Tryd.ntmps67
  go_wp2
  refine bodyPost_ret (v := ansV 4 t) (by simp [results, Tryd.results67, go_sem, ansV]) rfl ⟨rfl, ?_⟩
  repeat' (first | exact Below.refl _ _ | assumption | with_reducible refine below_drewN ?_ _ | with_reducible refine Below.drew ?_ | with_reducible refine Below.setCell ?_ ?_ _ | with_reducible refine Below.alloc ?_ ?_ _ | (simp; done) | (simp; omega))
theorem found_any (o : Option ByteArray) (w : World) :
    Calls Tryd.prog 68 #[.string (o.getD ⟨#[]⟩), .bool o.isSome] w fun e w' => e = .returned (ansV (fnd' o).kind (fnd' o).text) ∧ Below w.heap.size w w' := by
  cases o with
  | none =>
    go_enter Tryd.func68, Tryd.ntmps68
    go_wp2
    refine bodyPost_ret (v := ansV 3 ⟨#[]⟩) (by simp [results, Tryd.results68, go_sem, ansV]) rfl ⟨rfl, ?_⟩
    repeat' (first | exact Below.refl _ _ | assumption | with_reducible refine below_drewN ?_ _ | with_reducible refine Below.drew ?_ | with_reducible refine Below.setCell ?_ ?_ _ | with_reducible refine Below.alloc ?_ ?_ _ | (simp; done) | (simp; omega))
  | some v =>
    go_enter Tryd.func68, Tryd.ntmps68
    go_wp2
    refine bodyPost_ret (v := ansV 2 v) (by simp [results, Tryd.results68, go_sem, ansV]) rfl ⟨rfl, ?_⟩
    repeat' (first | exact Below.refl _ _ | assumption | with_reducible refine below_drewN ?_ _ | with_reducible refine Below.drew ?_ | with_reducible refine Below.setCell ?_ ?_ _ | with_reducible refine Below.alloc ?_ ?_ _ | (simp; done) | (simp; omega))

/-- did's blocks -/
structure DidAt (w w1 : World) (r s : Value) (k : Int) (key val : ByteArray) (st : Int) (v1 v2 v3 v4 : Value) : Prop where
  X : RowTo w1 w.heap.size 25 2 [r, s]
  Y : RowTo w1 (w.heap.size + 1) 27 3 [.int .i64 k, .string key, .string val]
  R : RowTo w1 (w.heap.size + 1 + 1) 25 2 [.slice none 0 0, .slice none 0 0]
  A : RowTo w1 (w.heap.size + 1 + 1 + 1) 30 3 [.int .i64 0, .string ⟨#[]⟩, .int .i64 0]
  Z : RowTo w1 (w.heap.size + 1 + 1 + 1 + 1) 46 5 [.int .i64 st, v1, v2, v3, v4]
  O : RowTo w1 (w.heap.size + 1 + 1 + 1 + 1 + 1) 30 3 [.int .i64 1, .string ⟨#[]⟩, .int .i64 0]
  bel : Below w.heap.size w w1
  size : w.heap.size + 1 + 1 + 1 + 1 + 1 + 1 ≤ w1.heap.size
theorem DidAt.below {w w1 w2 : World} {r s : Value} {k : Int} {key val : ByteArray} {st : Int} {v1 v2 v3 v4 : Value} (h : DidAt w w1 r s k key val st v1 v2 v3 v4) (hb : Below w1.heap.size w1 w2) : DidAt w w2 r s k key val st v1 v2 v3 v4 :=
  ⟨h.X.below hb h.X.lt, h.Y.below hb h.Y.lt, h.R.below hb h.R.lt, h.A.below hb h.A.lt, h.Z.below hb h.Z.lt, h.O.below hb h.O.lt, bel_add' h.bel hb h.bel.size, Nat.le_trans h.size hb.size⟩
def didW0 (w : World) (r s : Value) (k : Int) (key val : ByteArray) (st : Int) (v1 v2 v3 v4 : Value) : World :=
  ((doW0 w r s k key val).alloc (.cells #[.int .i64 st, v1, v2, v3, v4] 46)).alloc (.cells #[.int .i64 1, .string ⟨#[]⟩, .int .i64 0] 30)
theorem doW0_size (w : World) (r s : Value) (k : Int) (key val : ByteArray) : (doW0 w r s k key val).heap.size = w.heap.size + 1 + 1 + 1 + 1 := by simp [doW0]
theorem didAt0 (w : World) (r s : Value) (k : Int) (key val : ByteArray) (st : Int) (v1 v2 v3 v4 : Value) : DidAt w (didW0 w r s k key val st v1 v2 v3 v4) r s k key val st v1 v2 v3 v4 := by
  have h0 := doAt0 w r s k key val
  have hz := doW0_size w r s k key val
  have e1 : ((doW0 w r s k key val).alloc (.cells #[.int .i64 st, v1, v2, v3, v4] 46)).heap.size = w.heap.size + 1 + 1 + 1 + 1 + 1 := by rw [World.size_alloc, hz]
  unfold didW0
  have hZ := (RowTo.whole (doW0 w r s k key val) #[.int .i64 st, v1, v2, v3, v4] 46).alloc (.cells #[.int .i64 1, .string ⟨#[]⟩, .int .i64 0] 30)
  have hO := RowTo.whole ((doW0 w r s k key val).alloc (.cells #[.int .i64 st, v1, v2, v3, v4] 46)) #[.int .i64 1, .string ⟨#[]⟩, .int .i64 0] 30
  rw [hz] at hZ
  rw [e1] at hO
  refine ⟨(h0.X.alloc _).alloc _, (h0.Y.alloc _).alloc _, (h0.R.alloc _).alloc _, (h0.A.alloc _).alloc _, hZ, hO, (h0.bel.alloc (by rw [hz]; omega) _).alloc (by rw [e1]; omega) _, by rw [World.size_alloc, e1]; exact Nat.le_refl _⟩
end Go.Proofs.YtpbaobmegomfpabDoor

/-
  The reference's did.
-/
namespace Go.Proofs.YtpbaobmegomfpabDoor
open Go.RowKit
set_option linter.unusedVariables false
set_option linter.unusedSimpArgs false
set_option maxRecDepth 100000

def DidPost (w : World) (base S cap n : Nat) (R : Wd × Ans) (e : Ending) (w' : World) : Prop :=
  ∃ r', e = .returned (.tuple #[.agg #[r', slc S n cap], ansV R.2.kind R.2.text]) ∧ RefW w' base S cap r' R.1 ∧ Below base w w' ∧ (∀ b, b < w.heap.size → b ≠ S → w'.heap[b]? = w.heap[b]?)
theorem did_answer {w w' : World} {base S cap : Nat} {r : Value} {W : Wd} (h : RefW w base S cap r W) (hb : base ≤ w.heap.size) (b : Below w.heap.size w w') (a : Ans) : DidPost w base S cap W.ss.length (W, a) (.returned (.tuple #[.agg #[r, slc S W.ss.length cap], ansV a.kind a.text])) w' :=
  ⟨r, rfl, h.below b, b.mono hb, fun b' hb' _ => b.block b' hb'⟩
/-- a session is stored, and all is returned -/
theorem did_put {w w8 w' : World} {base S cap : Nat} {r r' : Value} {W : Wd} {rows' : PL} {s' : Sess} {u1 u2 u3 u4 : Value} {i : Nat} (h : RefW w base S cap r W) (hb : base ≤ w.heap.size) (hi : i < W.ss.length) (b : Below w.heap.size w w8)
    (l0 : Lst w8 w8.heap.size r' rows') (l1 : Lst w8 w8.heap.size u1 s'.set) (l2 : Lst w8 w8.heap.size u2 s'.prep) (l3 : Lst w8 w8.heap.size u3 s'.sav) (l4 : Lst w8 w8.heap.size u4 s'.wr)
    (q0 : InP (fun b => b ≠ S ∧ (b < w.heap.size ∨ w.heap.size + 1 + 1 + 1 + 1 + 1 + 1 ≤ b)) r' rows') (q1 : InP (fun b => b ≠ S ∧ (b < w.heap.size ∨ w.heap.size + 1 + 1 + 1 + 1 + 1 + 1 ≤ b)) u1 s'.set) (q2 : InP (fun b => b ≠ S ∧ (b < w.heap.size ∨ w.heap.size + 1 + 1 + 1 + 1 + 1 + 1 ≤ b)) u2 s'.prep) (q3 : InP (fun b => b ≠ S ∧ (b < w.heap.size ∨ w.heap.size + 1 + 1 + 1 + 1 + 1 + 1 ≤ b)) u3 s'.sav) (q4 : InP (fun b => b ≠ S ∧ (b < w.heap.size ∨ w.heap.size + 1 + 1 + 1 + 1 + 1 + 1 ≤ b)) u4 s'.wr)
    (hsz : w'.heap.size = w8.heap.size) (hos : w'.os = w8.os) (htape : w'.tape = w8.tape) (hout : w'.output = w8.output)
    (hk : ∀ b, b ≠ S → (b < w.heap.size ∨ w.heap.size + 1 + 1 + 1 + 1 + 1 + 1 ≤ b) → w'.heap[b]? = w8.heap[b]?)
    (hS : w'.heap[S]? = (set5 w8 S (i * 5) (.int .i64 s'.st) u1 u2 u3 u4).heap[S]?) (a : Ans) :
    DidPost w base S cap W.ss.length (⟨rows', W.ss.set i s'⟩, a) (.returned (.tuple #[.agg #[r', slc S W.ss.length cap], ansV a.kind a.text])) w' := by
  have hSw := h.blk.lt
  have hlo := h.lo
  have hblk8 := h.blk.below b hSw
  have hcS : ∀ j, w'.cell? ⟨S, j, none⟩ = (set5 w8 S (i * 5) (.int .i64 s'.st) u1 u2 u3 u4).cell? ⟨S, j, none⟩ := fun j => World.cell?_of_block hS
  have hlen := h.len
  have h5 := set5_cells (a0 := .int .i64 s'.st) (a1 := u1) (a2 := u2) (a3 := u3) (a4 := u4) hblk8 (o := i * 5) (by omega)
  have hold : ∀ b', b' < w.heap.size → b' ≠ S → w'.heap[b']? = w.heap[b']? := fun b' h1 h2 => (hk b' h2 (.inl h1)).trans (b.block b' h1)
  have ll : ∀ {v : Value} {l : PL}, Lst w8 w8.heap.size v l → InP (fun b => b ≠ S ∧ (b < w.heap.size ∨ w.heap.size + 1 + 1 + 1 + 1 + 1 + 1 ≤ b)) v l → Lst w' w'.heap.size v l := fun x y => x.keepP (own_lt x y) (fun c hc => hk c hc.1.1 hc.1.2) (fun c hc => by rw [hsz]; exact hc.2)
  refine ⟨r', rfl, h.put hi (by rw [hsz]; exact b.size) hold ((set5_row hblk8).same hS) (fun j hj => ?_) (ll l0 q0) (q0.mono fun _ hx => hx.1) ⟨⟨?_, ?_, ?_, ?_, ?_, ll l1 q1, ll l2 q2, ll l3 q3, ll l4 q4⟩, q1.mono fun _ hx => hx.1, q2.mono fun _ hx => hx.1, q3.mono fun _ hx => hx.1, q4.mono fun _ hx => hx.1⟩, ⟨hos.trans b.os, htape.trans b.tape, hout.trans b.output, by rw [hsz]; exact b.size, fun k hk' => hold k (by omega) (by omega)⟩, hold⟩
  · rw [hcS, set5_off hj]; exact b.cell (p := ⟨S, j, none⟩) hSw
  · rw [hcS]; exact h5.1
  · rw [hcS]; exact h5.2.1
  · rw [hcS]; exact h5.2.2.1
  · rw [hcS]; exact h5.2.2.2.1
  · rw [hcS]; exact h5.2.2.2.2
/-- a list that was there, one that is new -/
theorem old_inP {w : World} {S : Nat} {v : Value} {l : PL} (h : Lst w w.heap.size v l) (hp : InP (· ≠ S) v l) : InP (fun b => b ≠ S ∧ (b < w.heap.size ∨ w.heap.size + 1 + 1 + 1 + 1 + 1 + 1 ≤ b)) v l := (hp.and h.inP).mono fun b hb => ⟨hb.1, .inl hb.2⟩
theorem new_inP {w w7 w8 : World} {S t : Nat} {v : Value} {l : PL} (hS : S < w.heap.size) (hz : w.heap.size + 1 + 1 + 1 + 1 + 1 + 1 ≤ w7.heap.size) (h : w8.ownsRow w7.heap.size t 2 v l.length (flat l)) : InP (fun b => b ≠ S ∧ (b < w.heap.size ∨ w.heap.size + 1 + 1 + 1 + 1 + 1 + 1 ≤ b)) v l := (own_inP h).mono fun b hb => ⟨by have := hb.1; omega, .inr (by have := hb.1; omega)⟩

set_option maxHeartbeats 4000000 in
theorem did_failed (base S cap : Nat) (r : Value) (W : Wd) (i : Nat) (k : Int) (key val : ByteArray) (w : World) (h : RefW w base S cap r W) (hw : WorldOk W) (hb : base ≤ w.heap.size) (hi : i < W.ss.length) (hkz : key.size ≤ 8) (hvz : val.size ≤ 60) (hst : W.ss[i].st = 2) (hk2 : k ≠ 2) (hk3 : k ≠ 3) :
    Calls Tryd.prog 53 #[.agg #[r, slc S W.ss.length cap], .int .i64 i, .agg #[.int .i64 k, .string key, .string val]] w (DidPost w base S cap W.ss.length (W, no' tFailed)) := by
  obtain ⟨v1, v2, v3, v4, hs⟩ := h.ses i hi
  obtain ⟨D, d, rfl, hd⟩ := h.rows.form
  obtain ⟨A1, n1, rfl, _⟩ := hs.core.l1.form
  obtain ⟨A2, n2, rfl, _⟩ := hs.core.l2.form
  obtain ⟨A3, n3, rfl, _⟩ := hs.core.l3.form
  obtain ⟨A4, n4, rfl, _⟩ := hs.core.l4.form
  have H0 := Lib.hid (didAt0 w (.slice D W.rows.length d) (.slice (some ⟨S, 0, none⟩) W.ss.length cap) k key val W.ss[i].st (.slice A1 W.ss[i].set.length n1) (.slice A2 W.ss[i].prep.length n2) (.slice A3 W.ss[i].sav.length n3) (.slice A4 W.ss[i].wr.length n4))
  have hSw := h.blk.lt
  have bel0 := (doAt0 w (.slice D W.rows.length d) (.slice (some ⟨S, 0, none⟩) W.ss.length cap) k key val).bel
  have c0 := (bel0.cell (p := ⟨S, i * 5, none⟩) hSw).trans hs.core.c0
  have c1 := (bel0.cell (p := ⟨S, i * 5 + 1, none⟩) hSw).trans hs.core.c1
  have c2 := (bel0.cell (p := ⟨S, i * 5 + 2, none⟩) hSw).trans hs.core.c2
  have c3 := (bel0.cell (p := ⟨S, i * 5 + 3, none⟩) hSw).trans hs.core.c3
  have c4 := (bel0.cell (p := ⟨S, i * 5 + 4, none⟩) hSw).trans hs.core.c4
  unfold doW0 at c0 c1 c2 c3 c4
  clear bel0
  have hii : (i : Int) < (W.ss.length : Int) := by omega
  have HH := Lib.hid h
  have HS := Lib.hid hs
  have HW := Lib.hid hw
  have t0 : (W.ss[i].st == 2) = true := beq_iff_eq.2 hst
  have t1 : (k == 2) = false := beq_eq_false_iff_ne.2 hk2
  have t2 : (k == 3) = false := beq_eq_false_iff_ne.2 hk3
  clear h hs hw hst
  unfold slc
  go_enter Tryd.func53, Tryd.ntmps53
  go_wp2_with fail
  have HA : Hid (DidAt w (didW0 w (.slice D W.rows.length d) (.slice (some ⟨S, 0, none⟩) W.ss.length cap) k key val W.ss[i].st (.slice A1 W.ss[i].set.length n1) (.slice A2 W.ss[i].prep.length n2) (.slice A3 W.ss[i].sav.length n3) (.slice A4 W.ss[i].wr.length n4)) (.slice D W.rows.length d) (.slice (some ⟨S, 0, none⟩) W.ss.length cap) k key val W.ss[i].st (.slice A1 W.ss[i].set.length n1) (.slice A2 W.ss[i].prep.length n2) (.slice A3 W.ss[i].sav.length n3) (.slice A4 W.ss[i].wr.length n4)) := H0
  unfold didW0 doW0 at HA
  clear H0 c0 c1 c2 c3 c4
  generalize ((((((w.alloc (.cells #[.slice D W.rows.length d, .slice (some ⟨S, 0, none⟩) W.ss.length cap] 25)).alloc (.cells #[.int .i64 k, .string key, .string val] 27)).alloc (.cells #[.slice none 0 0, .slice none 0 0] 25)).alloc (.cells #[.int .i64 0, .string ⟨#[]⟩, .int .i64 0] 30)).alloc (.cells #[.int .i64 W.ss[i].st, .slice A1 W.ss[i].set.length n1, .slice A2 W.ss[i].prep.length n2, .slice A3 W.ss[i].sav.length n3, .slice A4 W.ss[i].wr.length n4] 46)).alloc (.cells #[.int .i64 1, .string ⟨#[]⟩, .int .i64 0] 30)) = W5 at *
  have hA := HA.out
  have x0 := hA.X.cell (j := 0) (by simp)
  have x1 := hA.X.cell (j := 1) (by simp)
  simp only [List.getElem_cons_zero, List.getElem_cons_succ] at x0 x1
  have hX5 := hA.X.lt
  have hXR : w.heap.size ≠ w.heap.size + 1 + 1 := by omega
  have hXA : w.heap.size ≠ w.heap.size + 1 + 1 + 1 := by omega
  have HR5 := Lib.hid hA.R
  have HA5 := Lib.hid hA.A
  have HB5 := Lib.hid hA.bel
  have hRw5 := hA.R.lt
  have hAw5 := hA.A.lt
  clear hA
  have kb := Below.refl W5.heap.size W5
  have HSd := Lib.hid (show W5.drew.cell? ⟨w.heap.size, 0, none⟩ = some (.slice D W.rows.length d) ∧ W5.drew.cell? ⟨w.heap.size, 1, none⟩ = some (.slice (some ⟨S, 0, none⟩) W.ss.length cap) from ⟨x0, x1⟩)
  go_region_held3 (fun wx => wx.cell? ⟨w.heap.size, 0, none⟩ = some (.slice D W.rows.length d) ∧ wx.cell? ⟨w.heap.size, 1, none⟩ = some (.slice (some ⟨S, 0, none⟩) W.ss.length cap))
    (first
      | with_reducible exact ⟨x0, x1⟩
      | with_reducible exact HSd.out
      | with_reducible exact ⟨(kb.cell (p := ⟨w.heap.size, 0, none⟩) hX5).trans x0, (kb.cell (p := ⟨w.heap.size, 1, none⟩) hX5).trans x1⟩
      | with_reducible exact ⟨cell_set3 (cell_set2 ((kb.cell (p := ⟨w.heap.size, 0, none⟩) hX5).trans x0) hXR) hXA, cell_set3 (cell_set2 ((kb.cell (p := ⟨w.heap.size, 1, none⟩) hX5).trans x1) hXR) hXA⟩
      | with_reducible exact ⟨cell_set2 ((kb.cell (p := ⟨w.heap.size, 0, none⟩) hX5).trans x0) hXR, cell_set2 ((kb.cell (p := ⟨w.heap.size, 1, none⟩) hX5).trans x1) hXR⟩)
    (first
      | (
        go_at_call 67
        refine (no_any tFailed _).mono ?_
        rintro e w6 ⟨rfl, hy⟩
        have kb : Below W5.heap.size W5 w6 := by first | exact hy | exact bel_addN kb hy kb.size | exact bel_add kb hy kb.size
        have R6 := HR5.out.below kb hRw5
        have A6 := HA5.out.below kb hAw5
        have r0 := R6.cell (j := 0) (by simp)
        have r1 := R6.cell (j := 1) (by simp)
        have b0 := A6.cell (j := 0) (by simp)
        have b1 := A6.cell (j := 1) (by simp)
        have b2 := A6.cell (j := 2) (by simp)
        have g0 := R6.frozen 0
        have g1 := R6.frozen 1
        have k0 := A6.frozen 0
        have k1 := A6.frozen 1
        have k2 := A6.frozen 2
        simp only [List.getElem_cons_zero, List.getElem_cons_succ] at r0 r1 b0 b1 b2
        unfold ansV))
  all_goals go_wp2
  all_goals refine bodyPost_ret (v := .tuple #[.agg #[(.slice D W.rows.length d), (.slice (some ⟨S, 0, none⟩) W.ss.length cap)], .agg #[.int .i64 4, .string tFailed, .int .i64 0]]) (by simp [results, Tryd.results53, go_sem, r0, r1, b0, b1, b2]) rfl ?_
  all_goals exact did_answer HH.out hb (((((bel_add' HB5.out kb HB5.out.size).setCell (by show _ ≤ w.heap.size + 1 + 1; omega) _).setCell (by show _ ≤ w.heap.size + 1 + 1; omega) _).setCell (by show _ ≤ w.heap.size + 1 + 1 + 1; omega) _).setCell (by show _ ≤ w.heap.size + 1 + 1 + 1; omega) _ |>.setCell (by show _ ≤ w.heap.size + 1 + 1 + 1; omega) _) (no' tFailed)

set_option maxHeartbeats 4000000 in
theorem did_begun (base S cap : Nat) (r : Value) (W : Wd) (i : Nat) (key val : ByteArray) (w : World) (h : RefW w base S cap r W) (hw : WorldOk W) (hb : base ≤ w.heap.size) (hi : i < W.ss.length) (hkz : key.size ≤ 8) (hvz : val.size ≤ 60) (hst : W.ss[i].st ≠ 2) (h0 : W.ss[i].st ≠ 0) :
    Calls Tryd.prog 53 #[.agg #[r, slc S W.ss.length cap], .int .i64 i, .agg #[.int .i64 1, .string key, .string val]] w (DidPost w base S cap W.ss.length (W, no' tBegun)) := by
  obtain ⟨v1, v2, v3, v4, hs⟩ := h.ses i hi
  obtain ⟨D, d, rfl, hd⟩ := h.rows.form
  obtain ⟨A1, n1, rfl, _⟩ := hs.core.l1.form
  obtain ⟨A2, n2, rfl, _⟩ := hs.core.l2.form
  obtain ⟨A3, n3, rfl, _⟩ := hs.core.l3.form
  obtain ⟨A4, n4, rfl, _⟩ := hs.core.l4.form
  have H0 := Lib.hid (didAt0 w (.slice D W.rows.length d) (.slice (some ⟨S, 0, none⟩) W.ss.length cap) 1 key val W.ss[i].st (.slice A1 W.ss[i].set.length n1) (.slice A2 W.ss[i].prep.length n2) (.slice A3 W.ss[i].sav.length n3) (.slice A4 W.ss[i].wr.length n4))
  have hSw := h.blk.lt
  have bel0 := (doAt0 w (.slice D W.rows.length d) (.slice (some ⟨S, 0, none⟩) W.ss.length cap) 1 key val).bel
  have c0 := (bel0.cell (p := ⟨S, i * 5, none⟩) hSw).trans hs.core.c0
  have c1 := (bel0.cell (p := ⟨S, i * 5 + 1, none⟩) hSw).trans hs.core.c1
  have c2 := (bel0.cell (p := ⟨S, i * 5 + 2, none⟩) hSw).trans hs.core.c2
  have c3 := (bel0.cell (p := ⟨S, i * 5 + 3, none⟩) hSw).trans hs.core.c3
  have c4 := (bel0.cell (p := ⟨S, i * 5 + 4, none⟩) hSw).trans hs.core.c4
  unfold doW0 at c0 c1 c2 c3 c4
  clear bel0
  have hii : (i : Int) < (W.ss.length : Int) := by omega
  have HH := Lib.hid h
  have HS := Lib.hid hs
  have HW := Lib.hid hw
  have t0 : (W.ss[i].st == 2) = false := beq_eq_false_iff_ne.2 hst
  have t1 : (W.ss[i].st != 0) = true := bne_iff_ne.2 h0
  clear h hs hw hst h0
  unfold slc
  go_enter Tryd.func53, Tryd.ntmps53
  go_wp2_with fail
  have HA : Hid (DidAt w (didW0 w (.slice D W.rows.length d) (.slice (some ⟨S, 0, none⟩) W.ss.length cap) 1 key val W.ss[i].st (.slice A1 W.ss[i].set.length n1) (.slice A2 W.ss[i].prep.length n2) (.slice A3 W.ss[i].sav.length n3) (.slice A4 W.ss[i].wr.length n4)) (.slice D W.rows.length d) (.slice (some ⟨S, 0, none⟩) W.ss.length cap) 1 key val W.ss[i].st (.slice A1 W.ss[i].set.length n1) (.slice A2 W.ss[i].prep.length n2) (.slice A3 W.ss[i].sav.length n3) (.slice A4 W.ss[i].wr.length n4)) := H0
  unfold didW0 doW0 at HA
  clear H0 c0 c1 c2 c3 c4
  generalize ((((((w.alloc (.cells #[.slice D W.rows.length d, .slice (some ⟨S, 0, none⟩) W.ss.length cap] 25)).alloc (.cells #[.int .i64 1, .string key, .string val] 27)).alloc (.cells #[.slice none 0 0, .slice none 0 0] 25)).alloc (.cells #[.int .i64 0, .string ⟨#[]⟩, .int .i64 0] 30)).alloc (.cells #[.int .i64 W.ss[i].st, .slice A1 W.ss[i].set.length n1, .slice A2 W.ss[i].prep.length n2, .slice A3 W.ss[i].sav.length n3, .slice A4 W.ss[i].wr.length n4] 46)).alloc (.cells #[.int .i64 1, .string ⟨#[]⟩, .int .i64 0] 30)) = W5 at *
  have hA := HA.out
  have x0 := hA.X.cell (j := 0) (by simp)
  have x1 := hA.X.cell (j := 1) (by simp)
  simp only [List.getElem_cons_zero, List.getElem_cons_succ] at x0 x1
  have hX5 := hA.X.lt
  have hXR : w.heap.size ≠ w.heap.size + 1 + 1 := by omega
  have hXA : w.heap.size ≠ w.heap.size + 1 + 1 + 1 := by omega
  have HR5 := Lib.hid hA.R
  have HA5 := Lib.hid hA.A
  have HB5 := Lib.hid hA.bel
  have hRw5 := hA.R.lt
  have hAw5 := hA.A.lt
  clear hA
  have kb := Below.refl W5.heap.size W5
  have HSd := Lib.hid (show W5.drew.cell? ⟨w.heap.size, 0, none⟩ = some (.slice D W.rows.length d) ∧ W5.drew.cell? ⟨w.heap.size, 1, none⟩ = some (.slice (some ⟨S, 0, none⟩) W.ss.length cap) from ⟨x0, x1⟩)
  go_region_held3 (fun wx => wx.cell? ⟨w.heap.size, 0, none⟩ = some (.slice D W.rows.length d) ∧ wx.cell? ⟨w.heap.size, 1, none⟩ = some (.slice (some ⟨S, 0, none⟩) W.ss.length cap))
    (first
      | with_reducible exact ⟨x0, x1⟩
      | with_reducible exact HSd.out
      | with_reducible exact ⟨(kb.cell (p := ⟨w.heap.size, 0, none⟩) hX5).trans x0, (kb.cell (p := ⟨w.heap.size, 1, none⟩) hX5).trans x1⟩
      | with_reducible exact ⟨cell_set3 (cell_set2 ((kb.cell (p := ⟨w.heap.size, 0, none⟩) hX5).trans x0) hXR) hXA, cell_set3 (cell_set2 ((kb.cell (p := ⟨w.heap.size, 1, none⟩) hX5).trans x1) hXR) hXA⟩
      | with_reducible exact ⟨cell_set2 ((kb.cell (p := ⟨w.heap.size, 0, none⟩) hX5).trans x0) hXR, cell_set2 ((kb.cell (p := ⟨w.heap.size, 1, none⟩) hX5).trans x1) hXR⟩)
    (first
      | (
        go_at_call 67
        refine (no_any tBegun _).mono ?_
        rintro e w6 ⟨rfl, hy⟩
        have kb : Below W5.heap.size W5 w6 := by first | exact hy | exact bel_addN kb hy kb.size | exact bel_add kb hy kb.size
        have R6 := HR5.out.below kb hRw5
        have A6 := HA5.out.below kb hAw5
        have r0 := R6.cell (j := 0) (by simp)
        have r1 := R6.cell (j := 1) (by simp)
        have b0 := A6.cell (j := 0) (by simp)
        have b1 := A6.cell (j := 1) (by simp)
        have b2 := A6.cell (j := 2) (by simp)
        have g0 := R6.frozen 0
        have g1 := R6.frozen 1
        have k0 := A6.frozen 0
        have k1 := A6.frozen 1
        have k2 := A6.frozen 2
        simp only [List.getElem_cons_zero, List.getElem_cons_succ] at r0 r1 b0 b1 b2
        unfold ansV))
  all_goals go_wp2
  all_goals refine bodyPost_ret (v := .tuple #[.agg #[(.slice D W.rows.length d), (.slice (some ⟨S, 0, none⟩) W.ss.length cap)], .agg #[.int .i64 4, .string tBegun, .int .i64 0]]) (by simp [results, Tryd.results53, go_sem, r0, r1, b0, b1, b2]) rfl ?_
  all_goals exact did_answer HH.out hb (((((bel_add' HB5.out kb HB5.out.size).setCell (by show _ ≤ w.heap.size + 1 + 1; omega) _).setCell (by show _ ≤ w.heap.size + 1 + 1; omega) _).setCell (by show _ ≤ w.heap.size + 1 + 1 + 1; omega) _).setCell (by show _ ≤ w.heap.size + 1 + 1 + 1; omega) _ |>.setCell (by show _ ≤ w.heap.size + 1 + 1 + 1; omega) _) (no' tBegun)

set_option maxHeartbeats 4000000 in
theorem did_notIn (base S cap : Nat) (r : Value) (W : Wd) (i : Nat) (key val : ByteArray) (w : World) (h : RefW w base S cap r W) (hw : WorldOk W) (hb : base ≤ w.heap.size) (hi : i < W.ss.length) (hkz : key.size ≤ 8) (hvz : val.size ≤ 60) (hst : W.ss[i].st ≠ 2) (h0 : W.ss[i].st ≠ 0) :
    Calls Tryd.prog 53 #[.agg #[r, slc S W.ss.length cap], .int .i64 i, .agg #[.int .i64 4, .string key, .string val]] w (DidPost w base S cap W.ss.length (W, no' tNotIn)) := by
  obtain ⟨v1, v2, v3, v4, hs⟩ := h.ses i hi
  obtain ⟨D, d, rfl, hd⟩ := h.rows.form
  obtain ⟨A1, n1, rfl, _⟩ := hs.core.l1.form
  obtain ⟨A2, n2, rfl, _⟩ := hs.core.l2.form
  obtain ⟨A3, n3, rfl, _⟩ := hs.core.l3.form
  obtain ⟨A4, n4, rfl, _⟩ := hs.core.l4.form
  have H0 := Lib.hid (didAt0 w (.slice D W.rows.length d) (.slice (some ⟨S, 0, none⟩) W.ss.length cap) 4 key val W.ss[i].st (.slice A1 W.ss[i].set.length n1) (.slice A2 W.ss[i].prep.length n2) (.slice A3 W.ss[i].sav.length n3) (.slice A4 W.ss[i].wr.length n4))
  have hSw := h.blk.lt
  have bel0 := (doAt0 w (.slice D W.rows.length d) (.slice (some ⟨S, 0, none⟩) W.ss.length cap) 4 key val).bel
  have c0 := (bel0.cell (p := ⟨S, i * 5, none⟩) hSw).trans hs.core.c0
  have c1 := (bel0.cell (p := ⟨S, i * 5 + 1, none⟩) hSw).trans hs.core.c1
  have c2 := (bel0.cell (p := ⟨S, i * 5 + 2, none⟩) hSw).trans hs.core.c2
  have c3 := (bel0.cell (p := ⟨S, i * 5 + 3, none⟩) hSw).trans hs.core.c3
  have c4 := (bel0.cell (p := ⟨S, i * 5 + 4, none⟩) hSw).trans hs.core.c4
  unfold doW0 at c0 c1 c2 c3 c4
  clear bel0
  have hii : (i : Int) < (W.ss.length : Int) := by omega
  have HH := Lib.hid h
  have HS := Lib.hid hs
  have HW := Lib.hid hw
  have t0 : (W.ss[i].st == 2) = false := beq_eq_false_iff_ne.2 hst
  have t1 : (W.ss[i].st != 0) = true := bne_iff_ne.2 h0
  clear h hs hw hst h0
  unfold slc
  go_enter Tryd.func53, Tryd.ntmps53
  go_wp2_with fail
  have HA : Hid (DidAt w (didW0 w (.slice D W.rows.length d) (.slice (some ⟨S, 0, none⟩) W.ss.length cap) 4 key val W.ss[i].st (.slice A1 W.ss[i].set.length n1) (.slice A2 W.ss[i].prep.length n2) (.slice A3 W.ss[i].sav.length n3) (.slice A4 W.ss[i].wr.length n4)) (.slice D W.rows.length d) (.slice (some ⟨S, 0, none⟩) W.ss.length cap) 4 key val W.ss[i].st (.slice A1 W.ss[i].set.length n1) (.slice A2 W.ss[i].prep.length n2) (.slice A3 W.ss[i].sav.length n3) (.slice A4 W.ss[i].wr.length n4)) := H0
  unfold didW0 doW0 at HA
  clear H0 c0 c1 c2 c3 c4
  generalize ((((((w.alloc (.cells #[.slice D W.rows.length d, .slice (some ⟨S, 0, none⟩) W.ss.length cap] 25)).alloc (.cells #[.int .i64 4, .string key, .string val] 27)).alloc (.cells #[.slice none 0 0, .slice none 0 0] 25)).alloc (.cells #[.int .i64 0, .string ⟨#[]⟩, .int .i64 0] 30)).alloc (.cells #[.int .i64 W.ss[i].st, .slice A1 W.ss[i].set.length n1, .slice A2 W.ss[i].prep.length n2, .slice A3 W.ss[i].sav.length n3, .slice A4 W.ss[i].wr.length n4] 46)).alloc (.cells #[.int .i64 1, .string ⟨#[]⟩, .int .i64 0] 30)) = W5 at *
  have hA := HA.out
  have x0 := hA.X.cell (j := 0) (by simp)
  have x1 := hA.X.cell (j := 1) (by simp)
  simp only [List.getElem_cons_zero, List.getElem_cons_succ] at x0 x1
  have hX5 := hA.X.lt
  have hXR : w.heap.size ≠ w.heap.size + 1 + 1 := by omega
  have hXA : w.heap.size ≠ w.heap.size + 1 + 1 + 1 := by omega
  have HR5 := Lib.hid hA.R
  have HA5 := Lib.hid hA.A
  have HB5 := Lib.hid hA.bel
  have hRw5 := hA.R.lt
  have hAw5 := hA.A.lt
  clear hA
  have kb := Below.refl W5.heap.size W5
  have HSd := Lib.hid (show W5.drew.cell? ⟨w.heap.size, 0, none⟩ = some (.slice D W.rows.length d) ∧ W5.drew.cell? ⟨w.heap.size, 1, none⟩ = some (.slice (some ⟨S, 0, none⟩) W.ss.length cap) from ⟨x0, x1⟩)
  go_region_held3 (fun wx => wx.cell? ⟨w.heap.size, 0, none⟩ = some (.slice D W.rows.length d) ∧ wx.cell? ⟨w.heap.size, 1, none⟩ = some (.slice (some ⟨S, 0, none⟩) W.ss.length cap))
    (first
      | with_reducible exact ⟨x0, x1⟩
      | with_reducible exact HSd.out
      | with_reducible exact ⟨(kb.cell (p := ⟨w.heap.size, 0, none⟩) hX5).trans x0, (kb.cell (p := ⟨w.heap.size, 1, none⟩) hX5).trans x1⟩
      | with_reducible exact ⟨cell_set3 (cell_set2 ((kb.cell (p := ⟨w.heap.size, 0, none⟩) hX5).trans x0) hXR) hXA, cell_set3 (cell_set2 ((kb.cell (p := ⟨w.heap.size, 1, none⟩) hX5).trans x1) hXR) hXA⟩
      | with_reducible exact ⟨cell_set2 ((kb.cell (p := ⟨w.heap.size, 0, none⟩) hX5).trans x0) hXR, cell_set2 ((kb.cell (p := ⟨w.heap.size, 1, none⟩) hX5).trans x1) hXR⟩)
    (first
      | (
        go_at_call 67
        refine (no_any tNotIn _).mono ?_
        rintro e w6 ⟨rfl, hy⟩
        have kb : Below W5.heap.size W5 w6 := by first | exact hy | exact bel_addN kb hy kb.size | exact bel_add kb hy kb.size
        have R6 := HR5.out.below kb hRw5
        have A6 := HA5.out.below kb hAw5
        have r0 := R6.cell (j := 0) (by simp)
        have r1 := R6.cell (j := 1) (by simp)
        have b0 := A6.cell (j := 0) (by simp)
        have b1 := A6.cell (j := 1) (by simp)
        have b2 := A6.cell (j := 2) (by simp)
        have g0 := R6.frozen 0
        have g1 := R6.frozen 1
        have k0 := A6.frozen 0
        have k1 := A6.frozen 1
        have k2 := A6.frozen 2
        simp only [List.getElem_cons_zero, List.getElem_cons_succ] at r0 r1 b0 b1 b2
        unfold ansV))
  all_goals go_wp2
  all_goals refine bodyPost_ret (v := .tuple #[.agg #[(.slice D W.rows.length d), (.slice (some ⟨S, 0, none⟩) W.ss.length cap)], .agg #[.int .i64 4, .string tNotIn, .int .i64 0]]) (by simp [results, Tryd.results53, go_sem, r0, r1, b0, b1, b2]) rfl ?_
  all_goals exact did_answer HH.out hb (((((bel_add' HB5.out kb HB5.out.size).setCell (by show _ ≤ w.heap.size + 1 + 1; omega) _).setCell (by show _ ≤ w.heap.size + 1 + 1; omega) _).setCell (by show _ ≤ w.heap.size + 1 + 1 + 1; omega) _).setCell (by show _ ≤ w.heap.size + 1 + 1 + 1; omega) _ |>.setCell (by show _ ≤ w.heap.size + 1 + 1 + 1; omega) _) (no' tNotIn)

set_option maxHeartbeats 4000000 in
theorem did_noTx_commit (base S cap : Nat) (r : Value) (W : Wd) (i : Nat) (key val : ByteArray) (w : World) (h : RefW w base S cap r W) (hw : WorldOk W) (hb : base ≤ w.heap.size) (hi : i < W.ss.length) (hkz : key.size ≤ 8) (hvz : val.size ≤ 60) (h0 : W.ss[i].st = 0) :
    Calls Tryd.prog 53 #[.agg #[r, slc S W.ss.length cap], .int .i64 i, .agg #[.int .i64 2, .string key, .string val]] w (DidPost w base S cap W.ss.length (W, no' tNoTx)) := by
  obtain ⟨v1, v2, v3, v4, hs⟩ := h.ses i hi
  obtain ⟨D, d, rfl, hd⟩ := h.rows.form
  obtain ⟨A1, n1, rfl, _⟩ := hs.core.l1.form
  obtain ⟨A2, n2, rfl, _⟩ := hs.core.l2.form
  obtain ⟨A3, n3, rfl, _⟩ := hs.core.l3.form
  obtain ⟨A4, n4, rfl, _⟩ := hs.core.l4.form
  have H0 := Lib.hid (didAt0 w (.slice D W.rows.length d) (.slice (some ⟨S, 0, none⟩) W.ss.length cap) 2 key val W.ss[i].st (.slice A1 W.ss[i].set.length n1) (.slice A2 W.ss[i].prep.length n2) (.slice A3 W.ss[i].sav.length n3) (.slice A4 W.ss[i].wr.length n4))
  have hSw := h.blk.lt
  have bel0 := (doAt0 w (.slice D W.rows.length d) (.slice (some ⟨S, 0, none⟩) W.ss.length cap) 2 key val).bel
  have c0 := (bel0.cell (p := ⟨S, i * 5, none⟩) hSw).trans hs.core.c0
  have c1 := (bel0.cell (p := ⟨S, i * 5 + 1, none⟩) hSw).trans hs.core.c1
  have c2 := (bel0.cell (p := ⟨S, i * 5 + 2, none⟩) hSw).trans hs.core.c2
  have c3 := (bel0.cell (p := ⟨S, i * 5 + 3, none⟩) hSw).trans hs.core.c3
  have c4 := (bel0.cell (p := ⟨S, i * 5 + 4, none⟩) hSw).trans hs.core.c4
  unfold doW0 at c0 c1 c2 c3 c4
  clear bel0
  have hii : (i : Int) < (W.ss.length : Int) := by omega
  have HH := Lib.hid h
  have HS := Lib.hid hs
  have HW := Lib.hid hw
  have t0 : (W.ss[i].st == 2) = false := beq_eq_false_iff_ne.2 (by omega)
  have t1 : (W.ss[i].st == 0) = true := beq_iff_eq.2 h0
  clear h hs hw h0
  unfold slc
  go_enter Tryd.func53, Tryd.ntmps53
  go_wp2_with fail
  have HA : Hid (DidAt w (didW0 w (.slice D W.rows.length d) (.slice (some ⟨S, 0, none⟩) W.ss.length cap) 2 key val W.ss[i].st (.slice A1 W.ss[i].set.length n1) (.slice A2 W.ss[i].prep.length n2) (.slice A3 W.ss[i].sav.length n3) (.slice A4 W.ss[i].wr.length n4)) (.slice D W.rows.length d) (.slice (some ⟨S, 0, none⟩) W.ss.length cap) 2 key val W.ss[i].st (.slice A1 W.ss[i].set.length n1) (.slice A2 W.ss[i].prep.length n2) (.slice A3 W.ss[i].sav.length n3) (.slice A4 W.ss[i].wr.length n4)) := H0
  unfold didW0 doW0 at HA
  clear H0 c0 c1 c2 c3 c4
  generalize ((((((w.alloc (.cells #[.slice D W.rows.length d, .slice (some ⟨S, 0, none⟩) W.ss.length cap] 25)).alloc (.cells #[.int .i64 2, .string key, .string val] 27)).alloc (.cells #[.slice none 0 0, .slice none 0 0] 25)).alloc (.cells #[.int .i64 0, .string ⟨#[]⟩, .int .i64 0] 30)).alloc (.cells #[.int .i64 W.ss[i].st, .slice A1 W.ss[i].set.length n1, .slice A2 W.ss[i].prep.length n2, .slice A3 W.ss[i].sav.length n3, .slice A4 W.ss[i].wr.length n4] 46)).alloc (.cells #[.int .i64 1, .string ⟨#[]⟩, .int .i64 0] 30)) = W5 at *
  have hA := HA.out
  have x0 := hA.X.cell (j := 0) (by simp)
  have x1 := hA.X.cell (j := 1) (by simp)
  simp only [List.getElem_cons_zero, List.getElem_cons_succ] at x0 x1
  have hX5 := hA.X.lt
  have hXR : w.heap.size ≠ w.heap.size + 1 + 1 := by omega
  have hXA : w.heap.size ≠ w.heap.size + 1 + 1 + 1 := by omega
  have HR5 := Lib.hid hA.R
  have HA5 := Lib.hid hA.A
  have HB5 := Lib.hid hA.bel
  have hRw5 := hA.R.lt
  have hAw5 := hA.A.lt
  clear hA
  have kb := Below.refl W5.heap.size W5
  have HSd := Lib.hid (show W5.drew.cell? ⟨w.heap.size, 0, none⟩ = some (.slice D W.rows.length d) ∧ W5.drew.cell? ⟨w.heap.size, 1, none⟩ = some (.slice (some ⟨S, 0, none⟩) W.ss.length cap) from ⟨x0, x1⟩)
  go_region_held3 (fun wx => wx.cell? ⟨w.heap.size, 0, none⟩ = some (.slice D W.rows.length d) ∧ wx.cell? ⟨w.heap.size, 1, none⟩ = some (.slice (some ⟨S, 0, none⟩) W.ss.length cap))
    (first
      | with_reducible exact ⟨x0, x1⟩
      | with_reducible exact HSd.out
      | with_reducible exact ⟨(kb.cell (p := ⟨w.heap.size, 0, none⟩) hX5).trans x0, (kb.cell (p := ⟨w.heap.size, 1, none⟩) hX5).trans x1⟩
      | with_reducible exact ⟨cell_set3 (cell_set2 ((kb.cell (p := ⟨w.heap.size, 0, none⟩) hX5).trans x0) hXR) hXA, cell_set3 (cell_set2 ((kb.cell (p := ⟨w.heap.size, 1, none⟩) hX5).trans x1) hXR) hXA⟩
      | with_reducible exact ⟨cell_set2 ((kb.cell (p := ⟨w.heap.size, 0, none⟩) hX5).trans x0) hXR, cell_set2 ((kb.cell (p := ⟨w.heap.size, 1, none⟩) hX5).trans x1) hXR⟩)
    (first
      | (
        go_at_call 67
        refine (no_any tNoTx _).mono ?_
        rintro e w6 ⟨rfl, hy⟩
        have kb : Below W5.heap.size W5 w6 := by first | exact hy | exact bel_addN kb hy kb.size | exact bel_add kb hy kb.size
        have R6 := HR5.out.below kb hRw5
        have A6 := HA5.out.below kb hAw5
        have r0 := R6.cell (j := 0) (by simp)
        have r1 := R6.cell (j := 1) (by simp)
        have b0 := A6.cell (j := 0) (by simp)
        have b1 := A6.cell (j := 1) (by simp)
        have b2 := A6.cell (j := 2) (by simp)
        have g0 := R6.frozen 0
        have g1 := R6.frozen 1
        have k0 := A6.frozen 0
        have k1 := A6.frozen 1
        have k2 := A6.frozen 2
        simp only [List.getElem_cons_zero, List.getElem_cons_succ] at r0 r1 b0 b1 b2
        unfold ansV))
  all_goals go_wp2
  all_goals refine bodyPost_ret (v := .tuple #[.agg #[(.slice D W.rows.length d), (.slice (some ⟨S, 0, none⟩) W.ss.length cap)], .agg #[.int .i64 4, .string tNoTx, .int .i64 0]]) (by simp [results, Tryd.results53, go_sem, r0, r1, b0, b1, b2]) rfl ?_
  all_goals exact did_answer HH.out hb (((((bel_add' HB5.out kb HB5.out.size).setCell (by show _ ≤ w.heap.size + 1 + 1; omega) _).setCell (by show _ ≤ w.heap.size + 1 + 1; omega) _).setCell (by show _ ≤ w.heap.size + 1 + 1 + 1; omega) _).setCell (by show _ ≤ w.heap.size + 1 + 1 + 1; omega) _ |>.setCell (by show _ ≤ w.heap.size + 1 + 1 + 1; omega) _) (no' tNoTx)

set_option maxHeartbeats 4000000 in
theorem did_noTx_rollback (base S cap : Nat) (r : Value) (W : Wd) (i : Nat) (key val : ByteArray) (w : World) (h : RefW w base S cap r W) (hw : WorldOk W) (hb : base ≤ w.heap.size) (hi : i < W.ss.length) (hkz : key.size ≤ 8) (hvz : val.size ≤ 60) (h0 : W.ss[i].st = 0) :
    Calls Tryd.prog 53 #[.agg #[r, slc S W.ss.length cap], .int .i64 i, .agg #[.int .i64 3, .string key, .string val]] w (DidPost w base S cap W.ss.length (W, no' tNoTx)) := by
  obtain ⟨v1, v2, v3, v4, hs⟩ := h.ses i hi
  obtain ⟨D, d, rfl, hd⟩ := h.rows.form
  obtain ⟨A1, n1, rfl, _⟩ := hs.core.l1.form
  obtain ⟨A2, n2, rfl, _⟩ := hs.core.l2.form
  obtain ⟨A3, n3, rfl, _⟩ := hs.core.l3.form
  obtain ⟨A4, n4, rfl, _⟩ := hs.core.l4.form
  have H0 := Lib.hid (didAt0 w (.slice D W.rows.length d) (.slice (some ⟨S, 0, none⟩) W.ss.length cap) 3 key val W.ss[i].st (.slice A1 W.ss[i].set.length n1) (.slice A2 W.ss[i].prep.length n2) (.slice A3 W.ss[i].sav.length n3) (.slice A4 W.ss[i].wr.length n4))
  have hSw := h.blk.lt
  have bel0 := (doAt0 w (.slice D W.rows.length d) (.slice (some ⟨S, 0, none⟩) W.ss.length cap) 3 key val).bel
  have c0 := (bel0.cell (p := ⟨S, i * 5, none⟩) hSw).trans hs.core.c0
  have c1 := (bel0.cell (p := ⟨S, i * 5 + 1, none⟩) hSw).trans hs.core.c1
  have c2 := (bel0.cell (p := ⟨S, i * 5 + 2, none⟩) hSw).trans hs.core.c2
  have c3 := (bel0.cell (p := ⟨S, i * 5 + 3, none⟩) hSw).trans hs.core.c3
  have c4 := (bel0.cell (p := ⟨S, i * 5 + 4, none⟩) hSw).trans hs.core.c4
  unfold doW0 at c0 c1 c2 c3 c4
  clear bel0
  have hii : (i : Int) < (W.ss.length : Int) := by omega
  have HH := Lib.hid h
  have HS := Lib.hid hs
  have HW := Lib.hid hw
  have t0 : (W.ss[i].st == 2) = false := beq_eq_false_iff_ne.2 (by omega)
  have t1 : (W.ss[i].st == 0) = true := beq_iff_eq.2 h0
  clear h hs hw h0
  unfold slc
  go_enter Tryd.func53, Tryd.ntmps53
  go_wp2_with fail
  have HA : Hid (DidAt w (didW0 w (.slice D W.rows.length d) (.slice (some ⟨S, 0, none⟩) W.ss.length cap) 3 key val W.ss[i].st (.slice A1 W.ss[i].set.length n1) (.slice A2 W.ss[i].prep.length n2) (.slice A3 W.ss[i].sav.length n3) (.slice A4 W.ss[i].wr.length n4)) (.slice D W.rows.length d) (.slice (some ⟨S, 0, none⟩) W.ss.length cap) 3 key val W.ss[i].st (.slice A1 W.ss[i].set.length n1) (.slice A2 W.ss[i].prep.length n2) (.slice A3 W.ss[i].sav.length n3) (.slice A4 W.ss[i].wr.length n4)) := H0
  unfold didW0 doW0 at HA
  clear H0 c0 c1 c2 c3 c4
  generalize ((((((w.alloc (.cells #[.slice D W.rows.length d, .slice (some ⟨S, 0, none⟩) W.ss.length cap] 25)).alloc (.cells #[.int .i64 3, .string key, .string val] 27)).alloc (.cells #[.slice none 0 0, .slice none 0 0] 25)).alloc (.cells #[.int .i64 0, .string ⟨#[]⟩, .int .i64 0] 30)).alloc (.cells #[.int .i64 W.ss[i].st, .slice A1 W.ss[i].set.length n1, .slice A2 W.ss[i].prep.length n2, .slice A3 W.ss[i].sav.length n3, .slice A4 W.ss[i].wr.length n4] 46)).alloc (.cells #[.int .i64 1, .string ⟨#[]⟩, .int .i64 0] 30)) = W5 at *
  have hA := HA.out
  have x0 := hA.X.cell (j := 0) (by simp)
  have x1 := hA.X.cell (j := 1) (by simp)
  simp only [List.getElem_cons_zero, List.getElem_cons_succ] at x0 x1
  have hX5 := hA.X.lt
  have hXR : w.heap.size ≠ w.heap.size + 1 + 1 := by omega
  have hXA : w.heap.size ≠ w.heap.size + 1 + 1 + 1 := by omega
  have HR5 := Lib.hid hA.R
  have HA5 := Lib.hid hA.A
  have HB5 := Lib.hid hA.bel
  have hRw5 := hA.R.lt
  have hAw5 := hA.A.lt
  clear hA
  have kb := Below.refl W5.heap.size W5
  have HSd := Lib.hid (show W5.drew.cell? ⟨w.heap.size, 0, none⟩ = some (.slice D W.rows.length d) ∧ W5.drew.cell? ⟨w.heap.size, 1, none⟩ = some (.slice (some ⟨S, 0, none⟩) W.ss.length cap) from ⟨x0, x1⟩)
  go_region_held3 (fun wx => wx.cell? ⟨w.heap.size, 0, none⟩ = some (.slice D W.rows.length d) ∧ wx.cell? ⟨w.heap.size, 1, none⟩ = some (.slice (some ⟨S, 0, none⟩) W.ss.length cap))
    (first
      | with_reducible exact ⟨x0, x1⟩
      | with_reducible exact HSd.out
      | with_reducible exact ⟨(kb.cell (p := ⟨w.heap.size, 0, none⟩) hX5).trans x0, (kb.cell (p := ⟨w.heap.size, 1, none⟩) hX5).trans x1⟩
      | with_reducible exact ⟨cell_set3 (cell_set2 ((kb.cell (p := ⟨w.heap.size, 0, none⟩) hX5).trans x0) hXR) hXA, cell_set3 (cell_set2 ((kb.cell (p := ⟨w.heap.size, 1, none⟩) hX5).trans x1) hXR) hXA⟩
      | with_reducible exact ⟨cell_set2 ((kb.cell (p := ⟨w.heap.size, 0, none⟩) hX5).trans x0) hXR, cell_set2 ((kb.cell (p := ⟨w.heap.size, 1, none⟩) hX5).trans x1) hXR⟩)
    (first
      | (
        go_at_call 67
        refine (no_any tNoTx _).mono ?_
        rintro e w6 ⟨rfl, hy⟩
        have kb : Below W5.heap.size W5 w6 := by first | exact hy | exact bel_addN kb hy kb.size | exact bel_add kb hy kb.size
        have R6 := HR5.out.below kb hRw5
        have A6 := HA5.out.below kb hAw5
        have r0 := R6.cell (j := 0) (by simp)
        have r1 := R6.cell (j := 1) (by simp)
        have b0 := A6.cell (j := 0) (by simp)
        have b1 := A6.cell (j := 1) (by simp)
        have b2 := A6.cell (j := 2) (by simp)
        have g0 := R6.frozen 0
        have g1 := R6.frozen 1
        have k0 := A6.frozen 0
        have k1 := A6.frozen 1
        have k2 := A6.frozen 2
        simp only [List.getElem_cons_zero, List.getElem_cons_succ] at r0 r1 b0 b1 b2
        unfold ansV))
  all_goals go_wp2
  all_goals refine bodyPost_ret (v := .tuple #[.agg #[(.slice D W.rows.length d), (.slice (some ⟨S, 0, none⟩) W.ss.length cap)], .agg #[.int .i64 4, .string tNoTx, .int .i64 0]]) (by simp [results, Tryd.results53, go_sem, r0, r1, b0, b1, b2]) rfl ?_
  all_goals exact did_answer HH.out hb (((((bel_add' HB5.out kb HB5.out.size).setCell (by show _ ≤ w.heap.size + 1 + 1; omega) _).setCell (by show _ ≤ w.heap.size + 1 + 1; omega) _).setCell (by show _ ≤ w.heap.size + 1 + 1 + 1; omega) _).setCell (by show _ ≤ w.heap.size + 1 + 1 + 1; omega) _ |>.setCell (by show _ ≤ w.heap.size + 1 + 1 + 1; omega) _) (no' tNoTx)

set_option maxHeartbeats 4000000 in
theorem did_fail (base S cap : Nat) (r : Value) (W : Wd) (i : Nat) (key val : ByteArray) (w : World) (h : RefW w base S cap r W) (hw : WorldOk W) (hb : base ≤ w.heap.size) (hi : i < W.ss.length) (hkz : key.size ≤ 8) (hvz : val.size ≤ 60) (hst : W.ss[i].st ≠ 2) :
    Calls Tryd.prog 53 #[.agg #[r, slc S W.ss.length cap], .int .i64 i, .agg #[.int .i64 5, .string key, .string val]] w (DidPost w base S cap W.ss.length (W, no' tAsked)) := by
  obtain ⟨v1, v2, v3, v4, hs⟩ := h.ses i hi
  obtain ⟨D, d, rfl, hd⟩ := h.rows.form
  obtain ⟨A1, n1, rfl, _⟩ := hs.core.l1.form
  obtain ⟨A2, n2, rfl, _⟩ := hs.core.l2.form
  obtain ⟨A3, n3, rfl, _⟩ := hs.core.l3.form
  obtain ⟨A4, n4, rfl, _⟩ := hs.core.l4.form
  have H0 := Lib.hid (didAt0 w (.slice D W.rows.length d) (.slice (some ⟨S, 0, none⟩) W.ss.length cap) 5 key val W.ss[i].st (.slice A1 W.ss[i].set.length n1) (.slice A2 W.ss[i].prep.length n2) (.slice A3 W.ss[i].sav.length n3) (.slice A4 W.ss[i].wr.length n4))
  have hSw := h.blk.lt
  have bel0 := (doAt0 w (.slice D W.rows.length d) (.slice (some ⟨S, 0, none⟩) W.ss.length cap) 5 key val).bel
  have c0 := (bel0.cell (p := ⟨S, i * 5, none⟩) hSw).trans hs.core.c0
  have c1 := (bel0.cell (p := ⟨S, i * 5 + 1, none⟩) hSw).trans hs.core.c1
  have c2 := (bel0.cell (p := ⟨S, i * 5 + 2, none⟩) hSw).trans hs.core.c2
  have c3 := (bel0.cell (p := ⟨S, i * 5 + 3, none⟩) hSw).trans hs.core.c3
  have c4 := (bel0.cell (p := ⟨S, i * 5 + 4, none⟩) hSw).trans hs.core.c4
  unfold doW0 at c0 c1 c2 c3 c4
  clear bel0
  have hii : (i : Int) < (W.ss.length : Int) := by omega
  have HH := Lib.hid h
  have HS := Lib.hid hs
  have HW := Lib.hid hw
  have t0 : (W.ss[i].st == 2) = false := beq_eq_false_iff_ne.2 hst
  clear h hs hw hst
  unfold slc
  go_enter Tryd.func53, Tryd.ntmps53
  go_wp2_with fail
  have HA : Hid (DidAt w (didW0 w (.slice D W.rows.length d) (.slice (some ⟨S, 0, none⟩) W.ss.length cap) 5 key val W.ss[i].st (.slice A1 W.ss[i].set.length n1) (.slice A2 W.ss[i].prep.length n2) (.slice A3 W.ss[i].sav.length n3) (.slice A4 W.ss[i].wr.length n4)) (.slice D W.rows.length d) (.slice (some ⟨S, 0, none⟩) W.ss.length cap) 5 key val W.ss[i].st (.slice A1 W.ss[i].set.length n1) (.slice A2 W.ss[i].prep.length n2) (.slice A3 W.ss[i].sav.length n3) (.slice A4 W.ss[i].wr.length n4)) := H0
  unfold didW0 doW0 at HA
  clear H0 c0 c1 c2 c3 c4
  generalize ((((((w.alloc (.cells #[.slice D W.rows.length d, .slice (some ⟨S, 0, none⟩) W.ss.length cap] 25)).alloc (.cells #[.int .i64 5, .string key, .string val] 27)).alloc (.cells #[.slice none 0 0, .slice none 0 0] 25)).alloc (.cells #[.int .i64 0, .string ⟨#[]⟩, .int .i64 0] 30)).alloc (.cells #[.int .i64 W.ss[i].st, .slice A1 W.ss[i].set.length n1, .slice A2 W.ss[i].prep.length n2, .slice A3 W.ss[i].sav.length n3, .slice A4 W.ss[i].wr.length n4] 46)).alloc (.cells #[.int .i64 1, .string ⟨#[]⟩, .int .i64 0] 30)) = W5 at *
  have hA := HA.out
  have x0 := hA.X.cell (j := 0) (by simp)
  have x1 := hA.X.cell (j := 1) (by simp)
  simp only [List.getElem_cons_zero, List.getElem_cons_succ] at x0 x1
  have hX5 := hA.X.lt
  have hXR : w.heap.size ≠ w.heap.size + 1 + 1 := by omega
  have hXA : w.heap.size ≠ w.heap.size + 1 + 1 + 1 := by omega
  have HR5 := Lib.hid hA.R
  have HA5 := Lib.hid hA.A
  have HB5 := Lib.hid hA.bel
  have hRw5 := hA.R.lt
  have hAw5 := hA.A.lt
  clear hA
  have kb := Below.refl W5.heap.size W5
  have HSd := Lib.hid (show W5.drew.cell? ⟨w.heap.size, 0, none⟩ = some (.slice D W.rows.length d) ∧ W5.drew.cell? ⟨w.heap.size, 1, none⟩ = some (.slice (some ⟨S, 0, none⟩) W.ss.length cap) from ⟨x0, x1⟩)
  go_region_held3 (fun wx => wx.cell? ⟨w.heap.size, 0, none⟩ = some (.slice D W.rows.length d) ∧ wx.cell? ⟨w.heap.size, 1, none⟩ = some (.slice (some ⟨S, 0, none⟩) W.ss.length cap))
    (first
      | with_reducible exact ⟨x0, x1⟩
      | with_reducible exact HSd.out
      | with_reducible exact ⟨(kb.cell (p := ⟨w.heap.size, 0, none⟩) hX5).trans x0, (kb.cell (p := ⟨w.heap.size, 1, none⟩) hX5).trans x1⟩
      | with_reducible exact ⟨cell_set3 (cell_set2 ((kb.cell (p := ⟨w.heap.size, 0, none⟩) hX5).trans x0) hXR) hXA, cell_set3 (cell_set2 ((kb.cell (p := ⟨w.heap.size, 1, none⟩) hX5).trans x1) hXR) hXA⟩
      | with_reducible exact ⟨cell_set2 ((kb.cell (p := ⟨w.heap.size, 0, none⟩) hX5).trans x0) hXR, cell_set2 ((kb.cell (p := ⟨w.heap.size, 1, none⟩) hX5).trans x1) hXR⟩)
    (first
      | (
        go_at_call 67
        refine (no_any tAsked _).mono ?_
        rintro e w6 ⟨rfl, hy⟩
        have kb : Below W5.heap.size W5 w6 := by first | exact hy | exact bel_addN kb hy kb.size | exact bel_add kb hy kb.size
        have R6 := HR5.out.below kb hRw5
        have A6 := HA5.out.below kb hAw5
        have r0 := R6.cell (j := 0) (by simp)
        have r1 := R6.cell (j := 1) (by simp)
        have b0 := A6.cell (j := 0) (by simp)
        have b1 := A6.cell (j := 1) (by simp)
        have b2 := A6.cell (j := 2) (by simp)
        have g0 := R6.frozen 0
        have g1 := R6.frozen 1
        have k0 := A6.frozen 0
        have k1 := A6.frozen 1
        have k2 := A6.frozen 2
        simp only [List.getElem_cons_zero, List.getElem_cons_succ] at r0 r1 b0 b1 b2
        unfold ansV))
  all_goals go_wp2
  all_goals refine bodyPost_ret (v := .tuple #[.agg #[(.slice D W.rows.length d), (.slice (some ⟨S, 0, none⟩) W.ss.length cap)], .agg #[.int .i64 4, .string tAsked, .int .i64 0]]) (by simp [results, Tryd.results53, go_sem, r0, r1, b0, b1, b2]) rfl ?_
  all_goals exact did_answer HH.out hb (((((bel_add' HB5.out kb HB5.out.size).setCell (by show _ ≤ w.heap.size + 1 + 1; omega) _).setCell (by show _ ≤ w.heap.size + 1 + 1; omega) _).setCell (by show _ ≤ w.heap.size + 1 + 1 + 1; omega) _).setCell (by show _ ≤ w.heap.size + 1 + 1 + 1; omega) _ |>.setCell (by show _ ≤ w.heap.size + 1 + 1 + 1; omega) _) (no' tAsked)
end Go.Proofs.YtpbaobmegomfpabDoor

/-
  The reference's did: lookups.
-/
namespace Go.Proofs.YtpbaobmegomfpabDoor
open Go.RowKit
set_option linter.unusedVariables false
set_option linter.unusedSimpArgs false
set_option maxRecDepth 100000

theorem atV_some (v : ByteArray) : atV (some v) = .tuple #[.string v, .bool true] := rfl
theorem atV_none : atV none = .tuple #[.string ⟨#[]⟩, .bool false] := rfl
theorem set5_block {w w' : World} {S o : Nat} {a0 a1 a2 a3 a4 : Value} (h : w'.heap[S]? = w.heap[S]?) : (set5 w' S o a0 a1 a2 a3 a4).heap[S]? = (set5 w S o a0 a1 a2 a3 a4).heap[S]? := by
  unfold set5
  have h0 := setCell_block (p := ⟨S, o, none⟩) (v := a0) h
  have h1 := setCell_block (p := ⟨S, o + 1, none⟩) (v := a1) h0
  have h2 := setCell_block (p := ⟨S, o + 2, none⟩) (v := a2) h1
  have h3 := setCell_block (p := ⟨S, o + 3, none⟩) (v := a3) h2
  exact setCell_block (p := ⟨S, o + 4, none⟩) (v := a4) h3
/-- the world behind 'w.Sessions[i] = s' -/
structure W7At (w w6 w7 : World) (S : Nat) (rv sv : Value) (o : Nat) (a0 a1 a2 a3 a4 : Value) : Prop where
  X : RowTo w7 w.heap.size 25 2 [rv, sv]
  R : RowTo w7 (w.heap.size + 1 + 1) 25 2 [.slice none 0 0, .slice none 0 0]
  A : RowTo w7 (w.heap.size + 1 + 1 + 1) 30 3 [.int .i64 0, .string ⟨#[]⟩, .int .i64 0]
  O : RowTo w7 (w.heap.size + 1 + 1 + 1 + 1 + 1) 30 3 [.int .i64 1, .string ⟨#[]⟩, .int .i64 0]
  k : ∀ b, b ≠ S → (b < w.heap.size ∨ w.heap.size + 1 + 1 + 1 + 1 + 1 + 1 ≤ b) → w7.heap[b]? = w6.heap[b]?
  s : w7.heap[S]? = (set5 w6 S o a0 a1 a2 a3 a4).heap[S]?
  z : w7.heap.size = w6.heap.size
  t : w7.os = w6.os ∧ w7.tape = w6.tape ∧ w7.output = w6.output
theorem w7_of {w w6 wz : World} {S cap : Nat} {r sv rv : Value} {k : Int} {key val : ByteArray} {st : Int} {v1 v2 v3 v4 : Value} (o : Nat) (a0 a1 a2 a3 a4 : Value) (h : DidAt w w6 r sv k key val st v1 v2 v3 v4) (hS : S < w.heap.size)
    (hX : RowTo wz w.heap.size 25 2 [rv, sv]) (hz : ∀ b, b ≠ w.heap.size → b ≠ w.heap.size + 1 + 1 + 1 + 1 → wz.heap[b]? = w6.heap[b]?) (hs : wz.heap.size = w6.heap.size) (ht : wz.os = w6.os ∧ wz.tape = w6.tape ∧ wz.output = w6.output) :
    W7At w w6 (set5 wz S o a0 a1 a2 a3 a4) S rv sv o a0 a1 a2 a3 a4 := by
  have hk : ∀ b, b ≠ S → (set5 wz S o a0 a1 a2 a3 a4).heap[b]? = wz.heap[b]? := fun b hb => by
    unfold set5
    rw [Below.heap_setCell _ _ _ _ hb, Below.heap_setCell _ _ _ _ hb, Below.heap_setCell _ _ _ _ hb, Below.heap_setCell _ _ _ _ hb, Below.heap_setCell _ _ _ _ hb]
  have hS5 : (set5 wz S o a0 a1 a2 a3 a4).heap[S]? = (set5 w6 S o a0 a1 a2 a3 a4).heap[S]? := set5_block (hz S (by omega) (by omega))
  have hs5 : (set5 wz S o a0 a1 a2 a3 a4).heap.size = wz.heap.size := by unfold set5; simp [World.setCell]
  have e1 : (set5 wz S o a0 a1 a2 a3 a4).os = wz.os := by unfold set5; simp only [World.setCell]
  have e2 : (set5 wz S o a0 a1 a2 a3 a4).tape = wz.tape := by unfold set5; simp only [World.setCell]
  have e3 : (set5 wz S o a0 a1 a2 a3 a4).output = wz.output := by unfold set5; simp only [World.setCell]
  generalize set5 wz S o a0 a1 a2 a3 a4 = w7 at *
  have q1 := (hk (w.heap.size + 1 + 1) (by omega)).trans (hz _ (by omega) (by omega))
  have q2 := (hk (w.heap.size + 1 + 1 + 1) (by omega)).trans (hz _ (by omega) (by omega))
  have q3 := (hk (w.heap.size + 1 + 1 + 1 + 1 + 1) (by omega)).trans (hz _ (by omega) (by omega))
  exact ⟨hX.same (hk _ (by omega)), h.R.same q1, h.A.same q2, h.O.same q3, fun b h1 h2 => (hk b h1).trans (hz b (by omega) (by omega)), hS5, hs5.trans hs, e1.trans ht.1, e2.trans ht.2.1, e3.trans ht.2.2⟩
theorem did_fin {w w6 w7 w' : World} {base S cap : Nat} {r r' sv : Value} {W : Wd} {rows' : PL} {s' : Sess} {u1 u2 u3 u4 : Value} {i : Nat} (h : RefW w base S cap r W) (hb : base ≤ w.heap.size) (hi : i < W.ss.length) (b : Below w.heap.size w w6)
    (l0 : Lst w6 w6.heap.size r' rows') (l1 : Lst w6 w6.heap.size u1 s'.set) (l2 : Lst w6 w6.heap.size u2 s'.prep) (l3 : Lst w6 w6.heap.size u3 s'.sav) (l4 : Lst w6 w6.heap.size u4 s'.wr)
    (q0 : InP (fun b => b ≠ S ∧ (b < w.heap.size ∨ w.heap.size + 1 + 1 + 1 + 1 + 1 + 1 ≤ b)) r' rows') (q1 : InP (fun b => b ≠ S ∧ (b < w.heap.size ∨ w.heap.size + 1 + 1 + 1 + 1 + 1 + 1 ≤ b)) u1 s'.set) (q2 : InP (fun b => b ≠ S ∧ (b < w.heap.size ∨ w.heap.size + 1 + 1 + 1 + 1 + 1 + 1 ≤ b)) u2 s'.prep) (q3 : InP (fun b => b ≠ S ∧ (b < w.heap.size ∨ w.heap.size + 1 + 1 + 1 + 1 + 1 + 1 ≤ b)) u3 s'.sav) (q4 : InP (fun b => b ≠ S ∧ (b < w.heap.size ∨ w.heap.size + 1 + 1 + 1 + 1 + 1 + 1 ≤ b)) u4 s'.wr)
    (H7 : W7At w w6 w7 S r' sv (i * 5) (.int .i64 s'.st) u1 u2 u3 u4) (x1 x2 x3 x4 x5 : Value)
    (hh : w'.heap = (((((w7.setCell ⟨w.heap.size + 1 + 1, 0, none⟩ x1).setCell ⟨w.heap.size + 1 + 1, 1, none⟩ x2).setCell ⟨w.heap.size + 1 + 1 + 1, 0, none⟩ x3).setCell ⟨w.heap.size + 1 + 1 + 1, 1, none⟩ x4).setCell ⟨w.heap.size + 1 + 1 + 1, 2, none⟩ x5).heap)
    (ht : w'.os = w7.os ∧ w'.tape = w7.tape ∧ w'.output = w7.output) (a : Ans) :
    DidPost w base S cap W.ss.length (⟨rows', W.ss.set i s'⟩, a) (.returned (.tuple #[.agg #[r', slc S W.ss.length cap], ansV a.kind a.text])) w' := by
  have hSw := h.blk.lt
  have hk : ∀ b, b ≠ w.heap.size + 1 + 1 → b ≠ w.heap.size + 1 + 1 + 1 → w'.heap[b]? = w7.heap[b]? := fun b h1 h2 => by
    rw [hh, Below.heap_setCell _ _ _ _ h2, Below.heap_setCell _ _ _ _ h2, Below.heap_setCell _ _ _ _ h2, Below.heap_setCell _ _ _ _ h1, Below.heap_setCell _ _ _ _ h1]
  have hz : w'.heap.size = w7.heap.size := by rw [hh]; simp [World.setCell]
  exact did_put h hb hi b l0 l1 l2 l3 l4 q0 q1 q2 q3 q4 (hz.trans H7.z) (ht.1.trans H7.t.1) (ht.2.1.trans H7.t.2.1) (ht.2.2.trans H7.t.2.2) (fun b h1 h2 => (hk b (by omega) (by omega)).trans (H7.k b h1 h2)) ((hk S (by omega) (by omega)).trans H7.s) a
theorem cell_drew {w : World} {p : Addr} {v : Value} (h : w.cell? p = some v) : w.drew.cell? p = some v := h
theorem zset_other {w : World} {N j : Nat} {v : Value} (b : Nat) (hb : b ≠ N) : (w.setCell ⟨N, j, none⟩ v).heap[b]? = w.heap[b]? := Below.heap_setCell _ _ _ _ hb

set_option maxHeartbeats 4000000 in
theorem did_begin (base S cap : Nat) (r : Value) (W : Wd) (i : Nat) (key val : ByteArray) (w : World) (h : RefW w base S cap r W) (hw : WorldOk W) (hb : base ≤ w.heap.size) (hi : i < W.ss.length) (hkz : key.size ≤ 8) (hvz : val.size ≤ 60) (h0 : W.ss[i].st = 0) :
    Calls Tryd.prog 53 #[.agg #[r, slc S W.ss.length cap], .int .i64 i, .agg #[.int .i64 1, .string key, .string val]] w (DidPost w base S cap W.ss.length (W.put i { W.ss[i] with st := 1, sav := W.ss[i].set }, ok')) := by
  obtain ⟨v1, v2, v3, v4, hs⟩ := h.ses i hi
  obtain ⟨D, d, rfl, hd⟩ := h.rows.form
  obtain ⟨A1, n1, rfl, _⟩ := hs.core.l1.form
  obtain ⟨A2, n2, rfl, _⟩ := hs.core.l2.form
  obtain ⟨A3, n3, rfl, _⟩ := hs.core.l3.form
  obtain ⟨A4, n4, rfl, _⟩ := hs.core.l4.form
  have H0 := Lib.hid (didAt0 w (.slice D W.rows.length d) (.slice (some ⟨S, 0, none⟩) W.ss.length cap) 1 key val W.ss[i].st (.slice A1 W.ss[i].set.length n1) (.slice A2 W.ss[i].prep.length n2) (.slice A3 W.ss[i].sav.length n3) (.slice A4 W.ss[i].wr.length n4))
  have hSw := h.blk.lt
  have bel0 := (doAt0 w (.slice D W.rows.length d) (.slice (some ⟨S, 0, none⟩) W.ss.length cap) 1 key val).bel
  have c0 := (bel0.cell (p := ⟨S, i * 5, none⟩) hSw).trans hs.core.c0
  have c1 := (bel0.cell (p := ⟨S, i * 5 + 1, none⟩) hSw).trans hs.core.c1
  have c2 := (bel0.cell (p := ⟨S, i * 5 + 2, none⟩) hSw).trans hs.core.c2
  have c3 := (bel0.cell (p := ⟨S, i * 5 + 3, none⟩) hSw).trans hs.core.c3
  have c4 := (bel0.cell (p := ⟨S, i * 5 + 4, none⟩) hSw).trans hs.core.c4
  unfold doW0 at c0 c1 c2 c3 c4
  clear bel0
  have hii : (i : Int) < (W.ss.length : Int) := by omega
  have HH := Lib.hid h
  have HS := Lib.hid hs
  have HW := Lib.hid hw
  have t0 : (W.ss[i].st == 2) = false := beq_eq_false_iff_ne.2 (by omega)
  have t1 : (W.ss[i].st != 0) = false := bne_eq_false_iff_eq.2 h0
  have HT := Lib.hid h0
  clear h hs hw h0
  unfold slc
  go_enter Tryd.func53, Tryd.ntmps53
  go_wp2_with fail
  have H1 := Lib.hid (didAt0 w (.slice D W.rows.length d) (.slice (some ⟨S, 0, none⟩) W.ss.length cap) 1 key val 1 (.slice A1 W.ss[i].set.length n1) (.slice A2 W.ss[i].prep.length n2) (.slice A3 W.ss[i].sav.length n3) (.slice A4 W.ss[i].wr.length n4))
  refine (pairs_any _ W.ss[i].set _ (HS.out.core.l1.step H1.out.bel)).mono ?_
  rintro e w6 ⟨v6, rfl, ho, hy⟩
  obtain ⟨A6, c6, rfl⟩ := own_form ho
  have h6 := H1.out.below hy
  have x0 := h6.X.cell (j := 0) (by simp)
  have x1 := h6.X.cell (j := 1) (by simp)
  have xf0 := h6.X.frozen 0
  have xf1 := h6.X.frozen 1
  have z0 := h6.Z.cell (j := 0) (by simp)
  have z1 := h6.Z.cell (j := 1) (by simp)
  have z2 := h6.Z.cell (j := 2) (by simp)
  have z3 := h6.Z.cell (j := 3) (by simp)
  have z4 := h6.Z.cell (j := 4) (by simp)
  have zf0 := h6.Z.frozen 0
  have zf1 := h6.Z.frozen 1
  have zf2 := h6.Z.frozen 2
  have zf3 := h6.Z.frozen 3
  have zf4 := h6.Z.frozen 4
  have o0 := h6.O.cell (j := 0) (by simp)
  have o1 := h6.O.cell (j := 1) (by simp)
  have o2 := h6.O.cell (j := 2) (by simp)
  have r0 := h6.R.cell (j := 0) (by simp)
  have r1 := h6.R.cell (j := 1) (by simp)
  have rf0 := h6.R.frozen 0
  have rf1 := h6.R.frozen 1
  have a0 := h6.A.cell (j := 0) (by simp)
  have a1 := h6.A.cell (j := 1) (by simp)
  have a2 := h6.A.cell (j := 2) (by simp)
  have af0 := h6.A.frozen 0
  have af1 := h6.A.frozen 1
  have af2 := h6.A.frozen 2
  simp only [List.getElem_cons_zero, List.getElem_cons_succ] at x0 x1 z0 z1 z2 z3 z4 o0 o1 o2 r0 r1 a0 a1 a2
  have hS6 := HH.out.blk.below h6.bel hSw
  obtain ⟨y0, d0⟩ := hS6.any (j := i * 5) (by have := HH.out.len; omega)
  have df0 := hS6.frozen (i * 5)
  obtain ⟨y1, d1⟩ := hS6.any (j := i * 5 + 1) (by have := HH.out.len; omega)
  have df1 := hS6.frozen (i * 5 + 1)
  obtain ⟨y2, d2⟩ := hS6.any (j := i * 5 + 2) (by have := HH.out.len; omega)
  have df2 := hS6.frozen (i * 5 + 2)
  obtain ⟨y3, d3⟩ := hS6.any (j := i * 5 + 3) (by have := HH.out.len; omega)
  have df3 := hS6.frozen (i * 5 + 3)
  obtain ⟨y4, d4⟩ := hS6.any (j := i * 5 + 4) (by have := HH.out.len; omega)
  have df4 := hS6.frozen (i * 5 + 4)
  have hw6 := h6.size
  have hSz : S < w6.heap.size := Nat.lt_of_lt_of_le hSw (h6.bel).size
  have HO := Lib.hid ho
  have H6 := Lib.hid h6
  clear ho h6 hy hS6 c0 c1 c2 c3 c4
  go_wp2
  have H7 := Lib.hid (w7_of (cap := cap) (wz := (w6.setCell ⟨w.heap.size + 1 + 1 + 1 + 1, 3, none⟩ (.slice A6 W.ss[i].set.length c6))) (i * 5) (.int .i64 1) (.slice A1 W.ss[i].set.length n1) (.slice A2 W.ss[i].prep.length n2) (.slice A6 W.ss[i].set.length c6) (.slice A4 W.ss[i].wr.length n4) H6.out hSw (rv := (.slice D W.rows.length d)) (by exact (H6.out.X.other (p := ⟨w.heap.size + 1 + 1 + 1 + 1, 3, none⟩) (by show w.heap.size + 1 + 1 + 1 + 1 ≠ w.heap.size; omega) (.slice A6 W.ss[i].set.length c6))) (fun b h1 h2 => (zset_other b h2)) (by simp [World.setCell]) ⟨rfl, rfl, rfl⟩)
  unfold set5 at H7
  clear x0 x1 xf0 xf1 z0 z1 z2 z3 z4 o0 o1 o2 r0 r1 a0 a1 a2 zf0 zf1 zf2 zf3 zf4 rf0 rf1 af0 af1 af2 d0 d1 d2 d3 d4 df0 df1 df2 df3 df4
  generalize ((((((w6.setCell ⟨w.heap.size + 1 + 1 + 1 + 1, 3, none⟩ (.slice A6 W.ss[i].set.length c6)).setCell ⟨S, i * 5, none⟩ (.int .i64 1)).setCell ⟨S, i * 5 + 1, none⟩ (.slice A1 W.ss[i].set.length n1)).setCell ⟨S, i * 5 + 2, none⟩ (.slice A2 W.ss[i].prep.length n2)).setCell ⟨S, i * 5 + 3, none⟩ (.slice A6 W.ss[i].set.length c6)).setCell ⟨S, i * 5 + 4, none⟩ (.slice A4 W.ss[i].wr.length n4)) = W7 at *
  have x0 := H7.out.X.cell (j := 0) (by simp)
  have x1 := H7.out.X.cell (j := 1) (by simp)
  have o0 := H7.out.O.cell (j := 0) (by simp)
  have o1 := H7.out.O.cell (j := 1) (by simp)
  have o2 := H7.out.O.cell (j := 2) (by simp)
  have r0 := H7.out.R.cell (j := 0) (by simp)
  have r1 := H7.out.R.cell (j := 1) (by simp)
  have b0 := H7.out.A.cell (j := 0) (by simp)
  have b1 := H7.out.A.cell (j := 1) (by simp)
  have b2 := H7.out.A.cell (j := 2) (by simp)
  have g0 := H7.out.R.frozen 0
  have g1 := H7.out.R.frozen 1
  have k0 := H7.out.A.frozen 0
  have k1 := H7.out.A.frozen 1
  have k2 := H7.out.A.frozen 2
  simp only [List.getElem_cons_zero, List.getElem_cons_succ] at x0 x1 o0 o1 o2 r0 r1 b0 b1 b2
  have hXR : w.heap.size ≠ w.heap.size + 1 + 1 := by omega
  have hXA : w.heap.size ≠ w.heap.size + 1 + 1 + 1 := by omega
  have hOR : w.heap.size + 1 + 1 + 1 + 1 + 1 ≠ w.heap.size + 1 + 1 := by omega
  have hOA : w.heap.size + 1 + 1 + 1 + 1 + 1 ≠ w.heap.size + 1 + 1 + 1 := by omega
  have HSd := Lib.hid (show W7.drew.cell? ⟨w.heap.size, 0, none⟩ = some (.slice D W.rows.length d) ∧ W7.drew.cell? ⟨w.heap.size, 1, none⟩ = some (.slice (some ⟨S, 0, none⟩) W.ss.length cap) ∧ W7.drew.cell? ⟨w.heap.size + 1 + 1 + 1 + 1 + 1, 0, none⟩ = some (.int .i64 1) ∧ W7.drew.cell? ⟨w.heap.size + 1 + 1 + 1 + 1 + 1, 1, none⟩ = some (.string ⟨#[]⟩) ∧ W7.drew.cell? ⟨w.heap.size + 1 + 1 + 1 + 1 + 1, 2, none⟩ = some (.int .i64 0) from ⟨x0, x1, o0, o1, o2⟩)
  go_region_held3 (fun wx => wx.cell? ⟨w.heap.size, 0, none⟩ = some (.slice D W.rows.length d) ∧ wx.cell? ⟨w.heap.size, 1, none⟩ = some (.slice (some ⟨S, 0, none⟩) W.ss.length cap) ∧ wx.cell? ⟨w.heap.size + 1 + 1 + 1 + 1 + 1, 0, none⟩ = some (.int .i64 1) ∧ wx.cell? ⟨w.heap.size + 1 + 1 + 1 + 1 + 1, 1, none⟩ = some (.string ⟨#[]⟩) ∧ wx.cell? ⟨w.heap.size + 1 + 1 + 1 + 1 + 1, 2, none⟩ = some (.int .i64 0))
    (first
      | with_reducible exact ⟨x0, x1, o0, o1, o2⟩
      | with_reducible exact HSd.out
      | with_reducible exact ⟨cell_set3 (cell_set2 x0 hXR) hXA, cell_set3 (cell_set2 x1 hXR) hXA, cell_set3 (cell_set2 o0 hOR) hOA, cell_set3 (cell_set2 o1 hOR) hOA, cell_set3 (cell_set2 o2 hOR) hOA⟩
      | with_reducible exact ⟨cell_drew (cell_set3 (cell_set2 x0 hXR) hXA), cell_drew (cell_set3 (cell_set2 x1 hXR) hXA), cell_drew (cell_set3 (cell_set2 o0 hOR) hOA), cell_drew (cell_set3 (cell_set2 o1 hOR) hOA), cell_drew (cell_set3 (cell_set2 o2 hOR) hOA)⟩
      | with_reducible exact ⟨cell_drew (cell_set2 x0 hXR), cell_drew (cell_set2 x1 hXR), cell_drew (cell_set2 o0 hOR), cell_drew (cell_set2 o1 hOR), cell_drew (cell_set2 o2 hOR)⟩
      | with_reducible exact ⟨cell_set2 x0 hXR, cell_set2 x1 hXR, cell_set2 o0 hOR, cell_set2 o1 hOR, cell_set2 o2 hOR⟩)
    (fail)
  all_goals go_wp2
  all_goals refine bodyPost_ret (v := .tuple #[.agg #[.slice D W.rows.length d, .slice (some ⟨S, 0, none⟩) W.ss.length cap], .agg #[.int .i64 1, .string ⟨#[]⟩, .int .i64 0]]) (by simp [results, Tryd.results53, go_sem, r0, r1, b0, b1, b2]) rfl ?_
  all_goals exact did_fin (s' := { W.ss[i] with st := 1, sav := W.ss[i].set }) HH.out hb hi H6.out.bel (HH.out.rows.step H6.out.bel) (HS.out.core.l1.step H6.out.bel) (HS.out.core.l2.step H6.out.bel) (own_lst HO.out HS.out.core.l1.bytes HS.out.core.l1.sizes) (HS.out.core.l4.step H6.out.bel) (old_inP HH.out.rows HH.out.rin) (old_inP HS.out.core.l1 HS.out.p1) (old_inP HS.out.core.l2 HS.out.p2) (new_inP hSw H1.out.size HO.out) (old_inP HS.out.core.l4 HS.out.p4) H7.out (.slice D W.rows.length d) (.slice (some ⟨S, 0, none⟩) W.ss.length cap) (.int .i64 1) (.string ⟨#[]⟩) (.int .i64 0) (by rfl) ⟨by rfl, by rfl, by rfl⟩ ok'

set_option maxHeartbeats 4000000 in
theorem did_reset (base S cap : Nat) (r : Value) (W : Wd) (i : Nat) (key val : ByteArray) (w : World) (h : RefW w base S cap r W) (hw : WorldOk W) (hb : base ≤ w.heap.size) (hi : i < W.ss.length) (hkz : key.size ≤ 8) (hvz : val.size ≤ 60) (h0 : W.ss[i].st = 0) :
    Calls Tryd.prog 53 #[.agg #[r, slc S W.ss.length cap], .int .i64 i, .agg #[.int .i64 4, .string key, .string val]] w (DidPost w base S cap W.ss.length (W.put i { W.ss[i] with set := [], prep := [] }, ok')) := by
  obtain ⟨v1, v2, v3, v4, hs⟩ := h.ses i hi
  obtain ⟨D, d, rfl, hd⟩ := h.rows.form
  obtain ⟨A1, n1, rfl, _⟩ := hs.core.l1.form
  obtain ⟨A2, n2, rfl, _⟩ := hs.core.l2.form
  obtain ⟨A3, n3, rfl, _⟩ := hs.core.l3.form
  obtain ⟨A4, n4, rfl, _⟩ := hs.core.l4.form
  have H0 := Lib.hid (didAt0 w (.slice D W.rows.length d) (.slice (some ⟨S, 0, none⟩) W.ss.length cap) 4 key val W.ss[i].st (.slice A1 W.ss[i].set.length n1) (.slice A2 W.ss[i].prep.length n2) (.slice A3 W.ss[i].sav.length n3) (.slice A4 W.ss[i].wr.length n4))
  have hSw := h.blk.lt
  have bel0 := (doAt0 w (.slice D W.rows.length d) (.slice (some ⟨S, 0, none⟩) W.ss.length cap) 4 key val).bel
  have c0 := (bel0.cell (p := ⟨S, i * 5, none⟩) hSw).trans hs.core.c0
  have c1 := (bel0.cell (p := ⟨S, i * 5 + 1, none⟩) hSw).trans hs.core.c1
  have c2 := (bel0.cell (p := ⟨S, i * 5 + 2, none⟩) hSw).trans hs.core.c2
  have c3 := (bel0.cell (p := ⟨S, i * 5 + 3, none⟩) hSw).trans hs.core.c3
  have c4 := (bel0.cell (p := ⟨S, i * 5 + 4, none⟩) hSw).trans hs.core.c4
  unfold doW0 at c0 c1 c2 c3 c4
  clear bel0
  have hii : (i : Int) < (W.ss.length : Int) := by omega
  have HH := Lib.hid h
  have HS := Lib.hid hs
  have HW := Lib.hid hw
  have t0 : (W.ss[i].st == 2) = false := beq_eq_false_iff_ne.2 (by omega)
  have t1 : (W.ss[i].st != 0) = false := bne_eq_false_iff_eq.2 h0
  have HT := Lib.hid h0
  clear h0
  have h6 := (didAt0 w (.slice D W.rows.length d) (.slice (some ⟨S, 0, none⟩) W.ss.length cap) 4 key val W.ss[i].st (.slice none 0 0) (.slice none 0 0) (.slice A3 W.ss[i].sav.length n3) (.slice A4 W.ss[i].wr.length n4))
  unfold didW0 doW0 at h6
  have hS6 := HH.out.blk.below h6.bel hSw
  obtain ⟨y0, d0⟩ := hS6.any (j := i * 5) (by have := HH.out.len; omega)
  have df0 := hS6.frozen (i * 5)
  obtain ⟨y1, d1⟩ := hS6.any (j := i * 5 + 1) (by have := HH.out.len; omega)
  have df1 := hS6.frozen (i * 5 + 1)
  obtain ⟨y2, d2⟩ := hS6.any (j := i * 5 + 2) (by have := HH.out.len; omega)
  have df2 := hS6.frozen (i * 5 + 2)
  obtain ⟨y3, d3⟩ := hS6.any (j := i * 5 + 3) (by have := HH.out.len; omega)
  have df3 := hS6.frozen (i * 5 + 3)
  obtain ⟨y4, d4⟩ := hS6.any (j := i * 5 + 4) (by have := HH.out.len; omega)
  have df4 := hS6.frozen (i * 5 + 4)
  have H6 := Lib.hid h6
  clear h6 hS6
  clear h hs hw
  unfold slc
  go_enter Tryd.func53, Tryd.ntmps53
  go_wp2
  have H7 := Lib.hid (w7_of (cap := cap) (wz := ((((((w.alloc (.cells #[.slice D W.rows.length d, .slice (some ⟨S, 0, none⟩) W.ss.length cap] 25)).alloc (.cells #[.int .i64 4, .string key, .string val] 27)).alloc (.cells #[.slice none 0 0, .slice none 0 0] 25)).alloc (.cells #[.int .i64 0, .string ⟨#[]⟩, .int .i64 0] 30)).alloc (.cells #[.int .i64 W.ss[i].st, .slice none 0 0, .slice none 0 0, .slice A3 W.ss[i].sav.length n3, .slice A4 W.ss[i].wr.length n4] 46)).alloc (.cells #[.int .i64 1, .string ⟨#[]⟩, .int .i64 0] 30))) (i * 5) (.int .i64 W.ss[i].st) (.slice none 0 0) (.slice none 0 0) (.slice A3 W.ss[i].sav.length n3) (.slice A4 W.ss[i].wr.length n4) H6.out hSw (rv := (.slice D W.rows.length d)) (by exact H6.out.X) (fun b h1 h2 => rfl) (by simp [World.setCell]) ⟨rfl, rfl, rfl⟩)
  unfold set5 at H7
  clear c0 c1 c2 c3 c4 d0 d1 d2 d3 d4 df0 df1 df2 df3 df4
  generalize (((((((((((w.alloc (.cells #[.slice D W.rows.length d, .slice (some ⟨S, 0, none⟩) W.ss.length cap] 25)).alloc (.cells #[.int .i64 4, .string key, .string val] 27)).alloc (.cells #[.slice none 0 0, .slice none 0 0] 25)).alloc (.cells #[.int .i64 0, .string ⟨#[]⟩, .int .i64 0] 30)).alloc (.cells #[.int .i64 W.ss[i].st, .slice none 0 0, .slice none 0 0, .slice A3 W.ss[i].sav.length n3, .slice A4 W.ss[i].wr.length n4] 46)).alloc (.cells #[.int .i64 1, .string ⟨#[]⟩, .int .i64 0] 30)).setCell ⟨S, i * 5, none⟩ (.int .i64 W.ss[i].st)).setCell ⟨S, i * 5 + 1, none⟩ (.slice none 0 0)).setCell ⟨S, i * 5 + 2, none⟩ (.slice none 0 0)).setCell ⟨S, i * 5 + 3, none⟩ (.slice A3 W.ss[i].sav.length n3)).setCell ⟨S, i * 5 + 4, none⟩ (.slice A4 W.ss[i].wr.length n4)) = W7 at *
  have x0 := H7.out.X.cell (j := 0) (by simp)
  have x1 := H7.out.X.cell (j := 1) (by simp)
  have o0 := H7.out.O.cell (j := 0) (by simp)
  have o1 := H7.out.O.cell (j := 1) (by simp)
  have o2 := H7.out.O.cell (j := 2) (by simp)
  have r0 := H7.out.R.cell (j := 0) (by simp)
  have r1 := H7.out.R.cell (j := 1) (by simp)
  have b0 := H7.out.A.cell (j := 0) (by simp)
  have b1 := H7.out.A.cell (j := 1) (by simp)
  have b2 := H7.out.A.cell (j := 2) (by simp)
  have g0 := H7.out.R.frozen 0
  have g1 := H7.out.R.frozen 1
  have k0 := H7.out.A.frozen 0
  have k1 := H7.out.A.frozen 1
  have k2 := H7.out.A.frozen 2
  simp only [List.getElem_cons_zero, List.getElem_cons_succ] at x0 x1 o0 o1 o2 r0 r1 b0 b1 b2
  have hXR : w.heap.size ≠ w.heap.size + 1 + 1 := by omega
  have hXA : w.heap.size ≠ w.heap.size + 1 + 1 + 1 := by omega
  have hOR : w.heap.size + 1 + 1 + 1 + 1 + 1 ≠ w.heap.size + 1 + 1 := by omega
  have hOA : w.heap.size + 1 + 1 + 1 + 1 + 1 ≠ w.heap.size + 1 + 1 + 1 := by omega
  have HSd := Lib.hid (show W7.drew.cell? ⟨w.heap.size, 0, none⟩ = some (.slice D W.rows.length d) ∧ W7.drew.cell? ⟨w.heap.size, 1, none⟩ = some (.slice (some ⟨S, 0, none⟩) W.ss.length cap) ∧ W7.drew.cell? ⟨w.heap.size + 1 + 1 + 1 + 1 + 1, 0, none⟩ = some (.int .i64 1) ∧ W7.drew.cell? ⟨w.heap.size + 1 + 1 + 1 + 1 + 1, 1, none⟩ = some (.string ⟨#[]⟩) ∧ W7.drew.cell? ⟨w.heap.size + 1 + 1 + 1 + 1 + 1, 2, none⟩ = some (.int .i64 0) from ⟨x0, x1, o0, o1, o2⟩)
  go_region_held3 (fun wx => wx.cell? ⟨w.heap.size, 0, none⟩ = some (.slice D W.rows.length d) ∧ wx.cell? ⟨w.heap.size, 1, none⟩ = some (.slice (some ⟨S, 0, none⟩) W.ss.length cap) ∧ wx.cell? ⟨w.heap.size + 1 + 1 + 1 + 1 + 1, 0, none⟩ = some (.int .i64 1) ∧ wx.cell? ⟨w.heap.size + 1 + 1 + 1 + 1 + 1, 1, none⟩ = some (.string ⟨#[]⟩) ∧ wx.cell? ⟨w.heap.size + 1 + 1 + 1 + 1 + 1, 2, none⟩ = some (.int .i64 0))
    (first
      | with_reducible exact ⟨x0, x1, o0, o1, o2⟩
      | with_reducible exact HSd.out
      | with_reducible exact ⟨cell_set3 (cell_set2 x0 hXR) hXA, cell_set3 (cell_set2 x1 hXR) hXA, cell_set3 (cell_set2 o0 hOR) hOA, cell_set3 (cell_set2 o1 hOR) hOA, cell_set3 (cell_set2 o2 hOR) hOA⟩
      | with_reducible exact ⟨cell_drew (cell_set3 (cell_set2 x0 hXR) hXA), cell_drew (cell_set3 (cell_set2 x1 hXR) hXA), cell_drew (cell_set3 (cell_set2 o0 hOR) hOA), cell_drew (cell_set3 (cell_set2 o1 hOR) hOA), cell_drew (cell_set3 (cell_set2 o2 hOR) hOA)⟩
      | with_reducible exact ⟨cell_drew (cell_set2 x0 hXR), cell_drew (cell_set2 x1 hXR), cell_drew (cell_set2 o0 hOR), cell_drew (cell_set2 o1 hOR), cell_drew (cell_set2 o2 hOR)⟩
      | with_reducible exact ⟨cell_set2 x0 hXR, cell_set2 x1 hXR, cell_set2 o0 hOR, cell_set2 o1 hOR, cell_set2 o2 hOR⟩)
    (fail)
  all_goals go_wp2
  all_goals refine bodyPost_ret (v := .tuple #[.agg #[.slice D W.rows.length d, .slice (some ⟨S, 0, none⟩) W.ss.length cap], .agg #[.int .i64 1, .string ⟨#[]⟩, .int .i64 0]]) (by simp [results, Tryd.results53, go_sem, r0, r1, b0, b1, b2]) rfl ?_
  all_goals exact did_fin (s' := { W.ss[i] with set := [], prep := [] }) HH.out hb hi H6.out.bel (HH.out.rows.step H6.out.bel) (Lst.none_ _ _) (Lst.none_ _ _) (HS.out.core.l3.step H6.out.bel) (HS.out.core.l4.step H6.out.bel) (old_inP HH.out.rows HH.out.rin) (InP.nil_ _ _) (InP.nil_ _ _) (old_inP HS.out.core.l3 HS.out.p3) (old_inP HS.out.core.l4 HS.out.p4) H7.out (.slice D W.rows.length d) (.slice (some ⟨S, 0, none⟩) W.ss.length cap) (.int .i64 1) (.string ⟨#[]⟩) (.int .i64 0) (by rfl) ⟨by rfl, by rfl, by rfl⟩ ok'

set_option maxHeartbeats 4000000 in
theorem did_rollback1 (base S cap : Nat) (r : Value) (W : Wd) (i : Nat) (key val : ByteArray) (w : World) (h : RefW w base S cap r W) (hw : WorldOk W) (hb : base ≤ w.heap.size) (hi : i < W.ss.length) (hkz : key.size ≤ 8) (hvz : val.size ≤ 60) (h0 : W.ss[i].st = 1) :
    Calls Tryd.prog 53 #[.agg #[r, slc S W.ss.length cap], .int .i64 i, .agg #[.int .i64 3, .string key, .string val]] w (DidPost w base S cap W.ss.length (W.put i { W.ss[i] with st := 0, set := W.ss[i].sav, sav := [], wr := [] }, ok')) := by
  obtain ⟨v1, v2, v3, v4, hs⟩ := h.ses i hi
  obtain ⟨D, d, rfl, hd⟩ := h.rows.form
  obtain ⟨A1, n1, rfl, _⟩ := hs.core.l1.form
  obtain ⟨A2, n2, rfl, _⟩ := hs.core.l2.form
  obtain ⟨A3, n3, rfl, _⟩ := hs.core.l3.form
  obtain ⟨A4, n4, rfl, _⟩ := hs.core.l4.form
  have H0 := Lib.hid (didAt0 w (.slice D W.rows.length d) (.slice (some ⟨S, 0, none⟩) W.ss.length cap) 3 key val W.ss[i].st (.slice A1 W.ss[i].set.length n1) (.slice A2 W.ss[i].prep.length n2) (.slice A3 W.ss[i].sav.length n3) (.slice A4 W.ss[i].wr.length n4))
  have hSw := h.blk.lt
  have bel0 := (doAt0 w (.slice D W.rows.length d) (.slice (some ⟨S, 0, none⟩) W.ss.length cap) 3 key val).bel
  have c0 := (bel0.cell (p := ⟨S, i * 5, none⟩) hSw).trans hs.core.c0
  have c1 := (bel0.cell (p := ⟨S, i * 5 + 1, none⟩) hSw).trans hs.core.c1
  have c2 := (bel0.cell (p := ⟨S, i * 5 + 2, none⟩) hSw).trans hs.core.c2
  have c3 := (bel0.cell (p := ⟨S, i * 5 + 3, none⟩) hSw).trans hs.core.c3
  have c4 := (bel0.cell (p := ⟨S, i * 5 + 4, none⟩) hSw).trans hs.core.c4
  unfold doW0 at c0 c1 c2 c3 c4
  clear bel0
  have hii : (i : Int) < (W.ss.length : Int) := by omega
  have HH := Lib.hid h
  have HS := Lib.hid hs
  have HW := Lib.hid hw
  have t0 : (W.ss[i].st == 0) = false := beq_eq_false_iff_ne.2 (by omega)
  have t1 : (W.ss[i].st == 2) = false := beq_eq_false_iff_ne.2 (by omega)
  clear h0
  have h6 := (didAt0 w (.slice D W.rows.length d) (.slice (some ⟨S, 0, none⟩) W.ss.length cap) 3 key val 0 (.slice A3 W.ss[i].sav.length n3) (.slice A2 W.ss[i].prep.length n2) (.slice none 0 0) (.slice none 0 0))
  unfold didW0 doW0 at h6
  have hS6 := HH.out.blk.below h6.bel hSw
  obtain ⟨y0, d0⟩ := hS6.any (j := i * 5) (by have := HH.out.len; omega)
  have df0 := hS6.frozen (i * 5)
  obtain ⟨y1, d1⟩ := hS6.any (j := i * 5 + 1) (by have := HH.out.len; omega)
  have df1 := hS6.frozen (i * 5 + 1)
  obtain ⟨y2, d2⟩ := hS6.any (j := i * 5 + 2) (by have := HH.out.len; omega)
  have df2 := hS6.frozen (i * 5 + 2)
  obtain ⟨y3, d3⟩ := hS6.any (j := i * 5 + 3) (by have := HH.out.len; omega)
  have df3 := hS6.frozen (i * 5 + 3)
  obtain ⟨y4, d4⟩ := hS6.any (j := i * 5 + 4) (by have := HH.out.len; omega)
  have df4 := hS6.frozen (i * 5 + 4)
  have H6 := Lib.hid h6
  clear h6 hS6
  clear h hs hw
  unfold slc
  go_enter Tryd.func53, Tryd.ntmps53
  go_wp2
  have H7 := Lib.hid (w7_of (cap := cap) (wz := ((((((w.alloc (.cells #[.slice D W.rows.length d, .slice (some ⟨S, 0, none⟩) W.ss.length cap] 25)).alloc (.cells #[.int .i64 3, .string key, .string val] 27)).alloc (.cells #[.slice none 0 0, .slice none 0 0] 25)).alloc (.cells #[.int .i64 0, .string ⟨#[]⟩, .int .i64 0] 30)).alloc (.cells #[.int .i64 0, .slice A3 W.ss[i].sav.length n3, .slice A2 W.ss[i].prep.length n2, .slice none 0 0, .slice none 0 0] 46)).alloc (.cells #[.int .i64 1, .string ⟨#[]⟩, .int .i64 0] 30))) (i * 5) (.int .i64 0) (.slice A3 W.ss[i].sav.length n3) (.slice A2 W.ss[i].prep.length n2) (.slice none 0 0) (.slice none 0 0) H6.out hSw (rv := (.slice D W.rows.length d)) (by exact H6.out.X) (fun b h1 h2 => rfl) (by simp [World.setCell]) ⟨rfl, rfl, rfl⟩)
  unfold set5 at H7
  clear c0 c1 c2 c3 c4 d0 d1 d2 d3 d4 df0 df1 df2 df3 df4
  generalize (((((((((((w.alloc (.cells #[.slice D W.rows.length d, .slice (some ⟨S, 0, none⟩) W.ss.length cap] 25)).alloc (.cells #[.int .i64 3, .string key, .string val] 27)).alloc (.cells #[.slice none 0 0, .slice none 0 0] 25)).alloc (.cells #[.int .i64 0, .string ⟨#[]⟩, .int .i64 0] 30)).alloc (.cells #[.int .i64 0, .slice A3 W.ss[i].sav.length n3, .slice A2 W.ss[i].prep.length n2, .slice none 0 0, .slice none 0 0] 46)).alloc (.cells #[.int .i64 1, .string ⟨#[]⟩, .int .i64 0] 30)).setCell ⟨S, i * 5, none⟩ (.int .i64 0)).setCell ⟨S, i * 5 + 1, none⟩ (.slice A3 W.ss[i].sav.length n3)).setCell ⟨S, i * 5 + 2, none⟩ (.slice A2 W.ss[i].prep.length n2)).setCell ⟨S, i * 5 + 3, none⟩ (.slice none 0 0)).setCell ⟨S, i * 5 + 4, none⟩ (.slice none 0 0)) = W7 at *
  have x0 := H7.out.X.cell (j := 0) (by simp)
  have x1 := H7.out.X.cell (j := 1) (by simp)
  have o0 := H7.out.O.cell (j := 0) (by simp)
  have o1 := H7.out.O.cell (j := 1) (by simp)
  have o2 := H7.out.O.cell (j := 2) (by simp)
  have r0 := H7.out.R.cell (j := 0) (by simp)
  have r1 := H7.out.R.cell (j := 1) (by simp)
  have b0 := H7.out.A.cell (j := 0) (by simp)
  have b1 := H7.out.A.cell (j := 1) (by simp)
  have b2 := H7.out.A.cell (j := 2) (by simp)
  have g0 := H7.out.R.frozen 0
  have g1 := H7.out.R.frozen 1
  have k0 := H7.out.A.frozen 0
  have k1 := H7.out.A.frozen 1
  have k2 := H7.out.A.frozen 2
  simp only [List.getElem_cons_zero, List.getElem_cons_succ] at x0 x1 o0 o1 o2 r0 r1 b0 b1 b2
  have hXR : w.heap.size ≠ w.heap.size + 1 + 1 := by omega
  have hXA : w.heap.size ≠ w.heap.size + 1 + 1 + 1 := by omega
  have hOR : w.heap.size + 1 + 1 + 1 + 1 + 1 ≠ w.heap.size + 1 + 1 := by omega
  have hOA : w.heap.size + 1 + 1 + 1 + 1 + 1 ≠ w.heap.size + 1 + 1 + 1 := by omega
  have HSd := Lib.hid (show W7.drew.cell? ⟨w.heap.size, 0, none⟩ = some (.slice D W.rows.length d) ∧ W7.drew.cell? ⟨w.heap.size, 1, none⟩ = some (.slice (some ⟨S, 0, none⟩) W.ss.length cap) ∧ W7.drew.cell? ⟨w.heap.size + 1 + 1 + 1 + 1 + 1, 0, none⟩ = some (.int .i64 1) ∧ W7.drew.cell? ⟨w.heap.size + 1 + 1 + 1 + 1 + 1, 1, none⟩ = some (.string ⟨#[]⟩) ∧ W7.drew.cell? ⟨w.heap.size + 1 + 1 + 1 + 1 + 1, 2, none⟩ = some (.int .i64 0) from ⟨x0, x1, o0, o1, o2⟩)
  go_region_held3 (fun wx => wx.cell? ⟨w.heap.size, 0, none⟩ = some (.slice D W.rows.length d) ∧ wx.cell? ⟨w.heap.size, 1, none⟩ = some (.slice (some ⟨S, 0, none⟩) W.ss.length cap) ∧ wx.cell? ⟨w.heap.size + 1 + 1 + 1 + 1 + 1, 0, none⟩ = some (.int .i64 1) ∧ wx.cell? ⟨w.heap.size + 1 + 1 + 1 + 1 + 1, 1, none⟩ = some (.string ⟨#[]⟩) ∧ wx.cell? ⟨w.heap.size + 1 + 1 + 1 + 1 + 1, 2, none⟩ = some (.int .i64 0))
    (first
      | with_reducible exact ⟨x0, x1, o0, o1, o2⟩
      | with_reducible exact HSd.out
      | with_reducible exact ⟨cell_set3 (cell_set2 x0 hXR) hXA, cell_set3 (cell_set2 x1 hXR) hXA, cell_set3 (cell_set2 o0 hOR) hOA, cell_set3 (cell_set2 o1 hOR) hOA, cell_set3 (cell_set2 o2 hOR) hOA⟩
      | with_reducible exact ⟨cell_drew (cell_set3 (cell_set2 x0 hXR) hXA), cell_drew (cell_set3 (cell_set2 x1 hXR) hXA), cell_drew (cell_set3 (cell_set2 o0 hOR) hOA), cell_drew (cell_set3 (cell_set2 o1 hOR) hOA), cell_drew (cell_set3 (cell_set2 o2 hOR) hOA)⟩
      | with_reducible exact ⟨cell_drew (cell_set2 x0 hXR), cell_drew (cell_set2 x1 hXR), cell_drew (cell_set2 o0 hOR), cell_drew (cell_set2 o1 hOR), cell_drew (cell_set2 o2 hOR)⟩
      | with_reducible exact ⟨cell_set2 x0 hXR, cell_set2 x1 hXR, cell_set2 o0 hOR, cell_set2 o1 hOR, cell_set2 o2 hOR⟩)
    (fail)
  all_goals go_wp2
  all_goals refine bodyPost_ret (v := .tuple #[.agg #[.slice D W.rows.length d, .slice (some ⟨S, 0, none⟩) W.ss.length cap], .agg #[.int .i64 1, .string ⟨#[]⟩, .int .i64 0]]) (by simp [results, Tryd.results53, go_sem, r0, r1, b0, b1, b2]) rfl ?_
  all_goals exact did_fin (s' := { W.ss[i] with st := 0, set := W.ss[i].sav, sav := [], wr := [] }) HH.out hb hi H6.out.bel (HH.out.rows.step H6.out.bel) (HS.out.core.l3.step H6.out.bel) (HS.out.core.l2.step H6.out.bel) (Lst.none_ _ _) (Lst.none_ _ _) (old_inP HH.out.rows HH.out.rin) (old_inP HS.out.core.l3 HS.out.p3) (old_inP HS.out.core.l2 HS.out.p2) (InP.nil_ _ _) (InP.nil_ _ _) H7.out (.slice D W.rows.length d) (.slice (some ⟨S, 0, none⟩) W.ss.length cap) (.int .i64 1) (.string ⟨#[]⟩) (.int .i64 0) (by rfl) ⟨by rfl, by rfl, by rfl⟩ ok'

set_option maxHeartbeats 4000000 in
theorem did_rollback2 (base S cap : Nat) (r : Value) (W : Wd) (i : Nat) (key val : ByteArray) (w : World) (h : RefW w base S cap r W) (hw : WorldOk W) (hb : base ≤ w.heap.size) (hi : i < W.ss.length) (hkz : key.size ≤ 8) (hvz : val.size ≤ 60) (h0 : W.ss[i].st = 2) :
    Calls Tryd.prog 53 #[.agg #[r, slc S W.ss.length cap], .int .i64 i, .agg #[.int .i64 3, .string key, .string val]] w (DidPost w base S cap W.ss.length (W.put i { W.ss[i] with st := 0, set := W.ss[i].sav, sav := [], wr := [] }, ok')) := by
  obtain ⟨v1, v2, v3, v4, hs⟩ := h.ses i hi
  obtain ⟨D, d, rfl, hd⟩ := h.rows.form
  obtain ⟨A1, n1, rfl, _⟩ := hs.core.l1.form
  obtain ⟨A2, n2, rfl, _⟩ := hs.core.l2.form
  obtain ⟨A3, n3, rfl, _⟩ := hs.core.l3.form
  obtain ⟨A4, n4, rfl, _⟩ := hs.core.l4.form
  have H0 := Lib.hid (didAt0 w (.slice D W.rows.length d) (.slice (some ⟨S, 0, none⟩) W.ss.length cap) 3 key val W.ss[i].st (.slice A1 W.ss[i].set.length n1) (.slice A2 W.ss[i].prep.length n2) (.slice A3 W.ss[i].sav.length n3) (.slice A4 W.ss[i].wr.length n4))
  have hSw := h.blk.lt
  have bel0 := (doAt0 w (.slice D W.rows.length d) (.slice (some ⟨S, 0, none⟩) W.ss.length cap) 3 key val).bel
  have c0 := (bel0.cell (p := ⟨S, i * 5, none⟩) hSw).trans hs.core.c0
  have c1 := (bel0.cell (p := ⟨S, i * 5 + 1, none⟩) hSw).trans hs.core.c1
  have c2 := (bel0.cell (p := ⟨S, i * 5 + 2, none⟩) hSw).trans hs.core.c2
  have c3 := (bel0.cell (p := ⟨S, i * 5 + 3, none⟩) hSw).trans hs.core.c3
  have c4 := (bel0.cell (p := ⟨S, i * 5 + 4, none⟩) hSw).trans hs.core.c4
  unfold doW0 at c0 c1 c2 c3 c4
  clear bel0
  have hii : (i : Int) < (W.ss.length : Int) := by omega
  have HH := Lib.hid h
  have HS := Lib.hid hs
  have HW := Lib.hid hw
  have t0 : (W.ss[i].st == 0) = false := beq_eq_false_iff_ne.2 (by omega)
  have t1 : (W.ss[i].st == 2) = true := beq_iff_eq.2 (by omega)
  clear h0
  have h6 := (didAt0 w (.slice D W.rows.length d) (.slice (some ⟨S, 0, none⟩) W.ss.length cap) 3 key val 0 (.slice A3 W.ss[i].sav.length n3) (.slice A2 W.ss[i].prep.length n2) (.slice none 0 0) (.slice none 0 0))
  unfold didW0 doW0 at h6
  have hS6 := HH.out.blk.below h6.bel hSw
  obtain ⟨y0, d0⟩ := hS6.any (j := i * 5) (by have := HH.out.len; omega)
  have df0 := hS6.frozen (i * 5)
  obtain ⟨y1, d1⟩ := hS6.any (j := i * 5 + 1) (by have := HH.out.len; omega)
  have df1 := hS6.frozen (i * 5 + 1)
  obtain ⟨y2, d2⟩ := hS6.any (j := i * 5 + 2) (by have := HH.out.len; omega)
  have df2 := hS6.frozen (i * 5 + 2)
  obtain ⟨y3, d3⟩ := hS6.any (j := i * 5 + 3) (by have := HH.out.len; omega)
  have df3 := hS6.frozen (i * 5 + 3)
  obtain ⟨y4, d4⟩ := hS6.any (j := i * 5 + 4) (by have := HH.out.len; omega)
  have df4 := hS6.frozen (i * 5 + 4)
  have H6 := Lib.hid h6
  clear h6 hS6
  clear h hs hw
  unfold slc
  go_enter Tryd.func53, Tryd.ntmps53
  go_wp2
  have H7 := Lib.hid (w7_of (cap := cap) (wz := ((((((w.alloc (.cells #[.slice D W.rows.length d, .slice (some ⟨S, 0, none⟩) W.ss.length cap] 25)).alloc (.cells #[.int .i64 3, .string key, .string val] 27)).alloc (.cells #[.slice none 0 0, .slice none 0 0] 25)).alloc (.cells #[.int .i64 0, .string ⟨#[]⟩, .int .i64 0] 30)).alloc (.cells #[.int .i64 0, .slice A3 W.ss[i].sav.length n3, .slice A2 W.ss[i].prep.length n2, .slice none 0 0, .slice none 0 0] 46)).alloc (.cells #[.int .i64 1, .string ⟨#[]⟩, .int .i64 0] 30))) (i * 5) (.int .i64 0) (.slice A3 W.ss[i].sav.length n3) (.slice A2 W.ss[i].prep.length n2) (.slice none 0 0) (.slice none 0 0) H6.out hSw (rv := (.slice D W.rows.length d)) (by exact H6.out.X) (fun b h1 h2 => rfl) (by simp [World.setCell]) ⟨rfl, rfl, rfl⟩)
  unfold set5 at H7
  clear c0 c1 c2 c3 c4 d0 d1 d2 d3 d4 df0 df1 df2 df3 df4
  generalize (((((((((((w.alloc (.cells #[.slice D W.rows.length d, .slice (some ⟨S, 0, none⟩) W.ss.length cap] 25)).alloc (.cells #[.int .i64 3, .string key, .string val] 27)).alloc (.cells #[.slice none 0 0, .slice none 0 0] 25)).alloc (.cells #[.int .i64 0, .string ⟨#[]⟩, .int .i64 0] 30)).alloc (.cells #[.int .i64 0, .slice A3 W.ss[i].sav.length n3, .slice A2 W.ss[i].prep.length n2, .slice none 0 0, .slice none 0 0] 46)).alloc (.cells #[.int .i64 1, .string ⟨#[]⟩, .int .i64 0] 30)).setCell ⟨S, i * 5, none⟩ (.int .i64 0)).setCell ⟨S, i * 5 + 1, none⟩ (.slice A3 W.ss[i].sav.length n3)).setCell ⟨S, i * 5 + 2, none⟩ (.slice A2 W.ss[i].prep.length n2)).setCell ⟨S, i * 5 + 3, none⟩ (.slice none 0 0)).setCell ⟨S, i * 5 + 4, none⟩ (.slice none 0 0)) = W7 at *
  have x0 := H7.out.X.cell (j := 0) (by simp)
  have x1 := H7.out.X.cell (j := 1) (by simp)
  have o0 := H7.out.O.cell (j := 0) (by simp)
  have o1 := H7.out.O.cell (j := 1) (by simp)
  have o2 := H7.out.O.cell (j := 2) (by simp)
  have r0 := H7.out.R.cell (j := 0) (by simp)
  have r1 := H7.out.R.cell (j := 1) (by simp)
  have b0 := H7.out.A.cell (j := 0) (by simp)
  have b1 := H7.out.A.cell (j := 1) (by simp)
  have b2 := H7.out.A.cell (j := 2) (by simp)
  have g0 := H7.out.R.frozen 0
  have g1 := H7.out.R.frozen 1
  have k0 := H7.out.A.frozen 0
  have k1 := H7.out.A.frozen 1
  have k2 := H7.out.A.frozen 2
  simp only [List.getElem_cons_zero, List.getElem_cons_succ] at x0 x1 o0 o1 o2 r0 r1 b0 b1 b2
  have hXR : w.heap.size ≠ w.heap.size + 1 + 1 := by omega
  have hXA : w.heap.size ≠ w.heap.size + 1 + 1 + 1 := by omega
  have hOR : w.heap.size + 1 + 1 + 1 + 1 + 1 ≠ w.heap.size + 1 + 1 := by omega
  have hOA : w.heap.size + 1 + 1 + 1 + 1 + 1 ≠ w.heap.size + 1 + 1 + 1 := by omega
  have HSd := Lib.hid (show W7.drew.cell? ⟨w.heap.size, 0, none⟩ = some (.slice D W.rows.length d) ∧ W7.drew.cell? ⟨w.heap.size, 1, none⟩ = some (.slice (some ⟨S, 0, none⟩) W.ss.length cap) ∧ W7.drew.cell? ⟨w.heap.size + 1 + 1 + 1 + 1 + 1, 0, none⟩ = some (.int .i64 1) ∧ W7.drew.cell? ⟨w.heap.size + 1 + 1 + 1 + 1 + 1, 1, none⟩ = some (.string ⟨#[]⟩) ∧ W7.drew.cell? ⟨w.heap.size + 1 + 1 + 1 + 1 + 1, 2, none⟩ = some (.int .i64 0) from ⟨x0, x1, o0, o1, o2⟩)
  go_region_held3 (fun wx => wx.cell? ⟨w.heap.size, 0, none⟩ = some (.slice D W.rows.length d) ∧ wx.cell? ⟨w.heap.size, 1, none⟩ = some (.slice (some ⟨S, 0, none⟩) W.ss.length cap) ∧ wx.cell? ⟨w.heap.size + 1 + 1 + 1 + 1 + 1, 0, none⟩ = some (.int .i64 1) ∧ wx.cell? ⟨w.heap.size + 1 + 1 + 1 + 1 + 1, 1, none⟩ = some (.string ⟨#[]⟩) ∧ wx.cell? ⟨w.heap.size + 1 + 1 + 1 + 1 + 1, 2, none⟩ = some (.int .i64 0))
    (first
      | with_reducible exact ⟨x0, x1, o0, o1, o2⟩
      | with_reducible exact HSd.out
      | with_reducible exact ⟨cell_set3 (cell_set2 x0 hXR) hXA, cell_set3 (cell_set2 x1 hXR) hXA, cell_set3 (cell_set2 o0 hOR) hOA, cell_set3 (cell_set2 o1 hOR) hOA, cell_set3 (cell_set2 o2 hOR) hOA⟩
      | with_reducible exact ⟨cell_drew (cell_set3 (cell_set2 x0 hXR) hXA), cell_drew (cell_set3 (cell_set2 x1 hXR) hXA), cell_drew (cell_set3 (cell_set2 o0 hOR) hOA), cell_drew (cell_set3 (cell_set2 o1 hOR) hOA), cell_drew (cell_set3 (cell_set2 o2 hOR) hOA)⟩
      | with_reducible exact ⟨cell_drew (cell_set2 x0 hXR), cell_drew (cell_set2 x1 hXR), cell_drew (cell_set2 o0 hOR), cell_drew (cell_set2 o1 hOR), cell_drew (cell_set2 o2 hOR)⟩
      | with_reducible exact ⟨cell_set2 x0 hXR, cell_set2 x1 hXR, cell_set2 o0 hOR, cell_set2 o1 hOR, cell_set2 o2 hOR⟩)
    (fail)
  all_goals go_wp2
  all_goals refine bodyPost_ret (v := .tuple #[.agg #[.slice D W.rows.length d, .slice (some ⟨S, 0, none⟩) W.ss.length cap], .agg #[.int .i64 1, .string ⟨#[]⟩, .int .i64 0]]) (by simp [results, Tryd.results53, go_sem, r0, r1, b0, b1, b2]) rfl ?_
  all_goals exact did_fin (s' := { W.ss[i] with st := 0, set := W.ss[i].sav, sav := [], wr := [] }) HH.out hb hi H6.out.bel (HH.out.rows.step H6.out.bel) (HS.out.core.l3.step H6.out.bel) (HS.out.core.l2.step H6.out.bel) (Lst.none_ _ _) (Lst.none_ _ _) (old_inP HH.out.rows HH.out.rin) (old_inP HS.out.core.l3 HS.out.p3) (old_inP HS.out.core.l2 HS.out.p2) (InP.nil_ _ _) (InP.nil_ _ _) H7.out (.slice D W.rows.length d) (.slice (some ⟨S, 0, none⟩) W.ss.length cap) (.int .i64 1) (.string ⟨#[]⟩) (.int .i64 0) (by rfl) ⟨by rfl, by rfl, by rfl⟩ ok'

set_option maxHeartbeats 4000000 in
theorem did_undo (base S cap : Nat) (r : Value) (W : Wd) (i : Nat) (key val : ByteArray) (w : World) (h : RefW w base S cap r W) (hw : WorldOk W) (hb : base ≤ w.heap.size) (hi : i < W.ss.length) (hkz : key.size ≤ 8) (hvz : val.size ≤ 60) (h0 : W.ss[i].st = 2) :
    Calls Tryd.prog 53 #[.agg #[r, slc S W.ss.length cap], .int .i64 i, .agg #[.int .i64 2, .string key, .string val]] w (DidPost w base S cap W.ss.length (W.put i { W.ss[i] with st := 0, set := W.ss[i].sav, sav := [], wr := [] }, ok')) := by
  obtain ⟨v1, v2, v3, v4, hs⟩ := h.ses i hi
  obtain ⟨D, d, rfl, hd⟩ := h.rows.form
  obtain ⟨A1, n1, rfl, _⟩ := hs.core.l1.form
  obtain ⟨A2, n2, rfl, _⟩ := hs.core.l2.form
  obtain ⟨A3, n3, rfl, _⟩ := hs.core.l3.form
  obtain ⟨A4, n4, rfl, _⟩ := hs.core.l4.form
  have H0 := Lib.hid (didAt0 w (.slice D W.rows.length d) (.slice (some ⟨S, 0, none⟩) W.ss.length cap) 2 key val W.ss[i].st (.slice A1 W.ss[i].set.length n1) (.slice A2 W.ss[i].prep.length n2) (.slice A3 W.ss[i].sav.length n3) (.slice A4 W.ss[i].wr.length n4))
  have hSw := h.blk.lt
  have bel0 := (doAt0 w (.slice D W.rows.length d) (.slice (some ⟨S, 0, none⟩) W.ss.length cap) 2 key val).bel
  have c0 := (bel0.cell (p := ⟨S, i * 5, none⟩) hSw).trans hs.core.c0
  have c1 := (bel0.cell (p := ⟨S, i * 5 + 1, none⟩) hSw).trans hs.core.c1
  have c2 := (bel0.cell (p := ⟨S, i * 5 + 2, none⟩) hSw).trans hs.core.c2
  have c3 := (bel0.cell (p := ⟨S, i * 5 + 3, none⟩) hSw).trans hs.core.c3
  have c4 := (bel0.cell (p := ⟨S, i * 5 + 4, none⟩) hSw).trans hs.core.c4
  unfold doW0 at c0 c1 c2 c3 c4
  clear bel0
  have hii : (i : Int) < (W.ss.length : Int) := by omega
  have HH := Lib.hid h
  have HS := Lib.hid hs
  have HW := Lib.hid hw
  have t0 : (W.ss[i].st == 0) = false := beq_eq_false_iff_ne.2 (by omega)
  have t1 : (W.ss[i].st == 1) = false := beq_eq_false_iff_ne.2 (by omega)
  have t2 : (W.ss[i].st == 2) = true := beq_iff_eq.2 (by omega)
  clear h0
  have h6 := (didAt0 w (.slice D W.rows.length d) (.slice (some ⟨S, 0, none⟩) W.ss.length cap) 2 key val 0 (.slice A3 W.ss[i].sav.length n3) (.slice A2 W.ss[i].prep.length n2) (.slice none 0 0) (.slice none 0 0))
  unfold didW0 doW0 at h6
  have hS6 := HH.out.blk.below h6.bel hSw
  obtain ⟨y0, d0⟩ := hS6.any (j := i * 5) (by have := HH.out.len; omega)
  have df0 := hS6.frozen (i * 5)
  obtain ⟨y1, d1⟩ := hS6.any (j := i * 5 + 1) (by have := HH.out.len; omega)
  have df1 := hS6.frozen (i * 5 + 1)
  obtain ⟨y2, d2⟩ := hS6.any (j := i * 5 + 2) (by have := HH.out.len; omega)
  have df2 := hS6.frozen (i * 5 + 2)
  obtain ⟨y3, d3⟩ := hS6.any (j := i * 5 + 3) (by have := HH.out.len; omega)
  have df3 := hS6.frozen (i * 5 + 3)
  obtain ⟨y4, d4⟩ := hS6.any (j := i * 5 + 4) (by have := HH.out.len; omega)
  have df4 := hS6.frozen (i * 5 + 4)
  have H6 := Lib.hid h6
  clear h6 hS6
  clear h hs hw
  unfold slc
  go_enter Tryd.func53, Tryd.ntmps53
  go_wp2
  have H7 := Lib.hid (w7_of (cap := cap) (wz := ((((((w.alloc (.cells #[.slice D W.rows.length d, .slice (some ⟨S, 0, none⟩) W.ss.length cap] 25)).alloc (.cells #[.int .i64 2, .string key, .string val] 27)).alloc (.cells #[.slice none 0 0, .slice none 0 0] 25)).alloc (.cells #[.int .i64 0, .string ⟨#[]⟩, .int .i64 0] 30)).alloc (.cells #[.int .i64 0, .slice A3 W.ss[i].sav.length n3, .slice A2 W.ss[i].prep.length n2, .slice none 0 0, .slice none 0 0] 46)).alloc (.cells #[.int .i64 1, .string ⟨#[]⟩, .int .i64 0] 30))) (i * 5) (.int .i64 0) (.slice A3 W.ss[i].sav.length n3) (.slice A2 W.ss[i].prep.length n2) (.slice none 0 0) (.slice none 0 0) H6.out hSw (rv := (.slice D W.rows.length d)) (by exact H6.out.X) (fun b h1 h2 => rfl) (by simp [World.setCell]) ⟨rfl, rfl, rfl⟩)
  unfold set5 at H7
  clear c0 c1 c2 c3 c4 d0 d1 d2 d3 d4 df0 df1 df2 df3 df4
  generalize (((((((((((w.alloc (.cells #[.slice D W.rows.length d, .slice (some ⟨S, 0, none⟩) W.ss.length cap] 25)).alloc (.cells #[.int .i64 2, .string key, .string val] 27)).alloc (.cells #[.slice none 0 0, .slice none 0 0] 25)).alloc (.cells #[.int .i64 0, .string ⟨#[]⟩, .int .i64 0] 30)).alloc (.cells #[.int .i64 0, .slice A3 W.ss[i].sav.length n3, .slice A2 W.ss[i].prep.length n2, .slice none 0 0, .slice none 0 0] 46)).alloc (.cells #[.int .i64 1, .string ⟨#[]⟩, .int .i64 0] 30)).setCell ⟨S, i * 5, none⟩ (.int .i64 0)).setCell ⟨S, i * 5 + 1, none⟩ (.slice A3 W.ss[i].sav.length n3)).setCell ⟨S, i * 5 + 2, none⟩ (.slice A2 W.ss[i].prep.length n2)).setCell ⟨S, i * 5 + 3, none⟩ (.slice none 0 0)).setCell ⟨S, i * 5 + 4, none⟩ (.slice none 0 0)) = W7 at *
  have x0 := H7.out.X.cell (j := 0) (by simp)
  have x1 := H7.out.X.cell (j := 1) (by simp)
  have o0 := H7.out.O.cell (j := 0) (by simp)
  have o1 := H7.out.O.cell (j := 1) (by simp)
  have o2 := H7.out.O.cell (j := 2) (by simp)
  have r0 := H7.out.R.cell (j := 0) (by simp)
  have r1 := H7.out.R.cell (j := 1) (by simp)
  have b0 := H7.out.A.cell (j := 0) (by simp)
  have b1 := H7.out.A.cell (j := 1) (by simp)
  have b2 := H7.out.A.cell (j := 2) (by simp)
  have g0 := H7.out.R.frozen 0
  have g1 := H7.out.R.frozen 1
  have k0 := H7.out.A.frozen 0
  have k1 := H7.out.A.frozen 1
  have k2 := H7.out.A.frozen 2
  simp only [List.getElem_cons_zero, List.getElem_cons_succ] at x0 x1 o0 o1 o2 r0 r1 b0 b1 b2
  have hXR : w.heap.size ≠ w.heap.size + 1 + 1 := by omega
  have hXA : w.heap.size ≠ w.heap.size + 1 + 1 + 1 := by omega
  have hOR : w.heap.size + 1 + 1 + 1 + 1 + 1 ≠ w.heap.size + 1 + 1 := by omega
  have hOA : w.heap.size + 1 + 1 + 1 + 1 + 1 ≠ w.heap.size + 1 + 1 + 1 := by omega
  have HSd := Lib.hid (show W7.drew.cell? ⟨w.heap.size, 0, none⟩ = some (.slice D W.rows.length d) ∧ W7.drew.cell? ⟨w.heap.size, 1, none⟩ = some (.slice (some ⟨S, 0, none⟩) W.ss.length cap) ∧ W7.drew.cell? ⟨w.heap.size + 1 + 1 + 1 + 1 + 1, 0, none⟩ = some (.int .i64 1) ∧ W7.drew.cell? ⟨w.heap.size + 1 + 1 + 1 + 1 + 1, 1, none⟩ = some (.string ⟨#[]⟩) ∧ W7.drew.cell? ⟨w.heap.size + 1 + 1 + 1 + 1 + 1, 2, none⟩ = some (.int .i64 0) from ⟨x0, x1, o0, o1, o2⟩)
  go_region_held3 (fun wx => wx.cell? ⟨w.heap.size, 0, none⟩ = some (.slice D W.rows.length d) ∧ wx.cell? ⟨w.heap.size, 1, none⟩ = some (.slice (some ⟨S, 0, none⟩) W.ss.length cap) ∧ wx.cell? ⟨w.heap.size + 1 + 1 + 1 + 1 + 1, 0, none⟩ = some (.int .i64 1) ∧ wx.cell? ⟨w.heap.size + 1 + 1 + 1 + 1 + 1, 1, none⟩ = some (.string ⟨#[]⟩) ∧ wx.cell? ⟨w.heap.size + 1 + 1 + 1 + 1 + 1, 2, none⟩ = some (.int .i64 0))
    (first
      | with_reducible exact ⟨x0, x1, o0, o1, o2⟩
      | with_reducible exact HSd.out
      | with_reducible exact ⟨cell_set3 (cell_set2 x0 hXR) hXA, cell_set3 (cell_set2 x1 hXR) hXA, cell_set3 (cell_set2 o0 hOR) hOA, cell_set3 (cell_set2 o1 hOR) hOA, cell_set3 (cell_set2 o2 hOR) hOA⟩
      | with_reducible exact ⟨cell_drew (cell_set3 (cell_set2 x0 hXR) hXA), cell_drew (cell_set3 (cell_set2 x1 hXR) hXA), cell_drew (cell_set3 (cell_set2 o0 hOR) hOA), cell_drew (cell_set3 (cell_set2 o1 hOR) hOA), cell_drew (cell_set3 (cell_set2 o2 hOR) hOA)⟩
      | with_reducible exact ⟨cell_drew (cell_set2 x0 hXR), cell_drew (cell_set2 x1 hXR), cell_drew (cell_set2 o0 hOR), cell_drew (cell_set2 o1 hOR), cell_drew (cell_set2 o2 hOR)⟩
      | with_reducible exact ⟨cell_set2 x0 hXR, cell_set2 x1 hXR, cell_set2 o0 hOR, cell_set2 o1 hOR, cell_set2 o2 hOR⟩)
    (fail)
  all_goals go_wp2
  all_goals refine bodyPost_ret (v := .tuple #[.agg #[.slice D W.rows.length d, .slice (some ⟨S, 0, none⟩) W.ss.length cap], .agg #[.int .i64 1, .string ⟨#[]⟩, .int .i64 0]]) (by simp [results, Tryd.results53, go_sem, r0, r1, b0, b1, b2]) rfl ?_
  all_goals exact did_fin (s' := { W.ss[i] with st := 0, set := W.ss[i].sav, sav := [], wr := [] }) HH.out hb hi H6.out.bel (HH.out.rows.step H6.out.bel) (HS.out.core.l3.step H6.out.bel) (HS.out.core.l2.step H6.out.bel) (Lst.none_ _ _) (Lst.none_ _ _) (old_inP HH.out.rows HH.out.rin) (old_inP HS.out.core.l3 HS.out.p3) (old_inP HS.out.core.l2 HS.out.p2) (InP.nil_ _ _) (InP.nil_ _ _) H7.out (.slice D W.rows.length d) (.slice (some ⟨S, 0, none⟩) W.ss.length cap) (.int .i64 1) (.string ⟨#[]⟩) (.int .i64 0) (by rfl) ⟨by rfl, by rfl, by rfl⟩ ok'
end Go.Proofs.YtpbaobmegomfpabDoor

