/-
  Walks of back.Check.
-/
import Derived.Test.YtpbaobmegomfpaaDoorBFit
import Derived.Test.YtpbaobmegomfpaaDoorBChk2
namespace Go.Proofs.YtpbaobmegomfpaaDoor
open Go.RowKit
set_option linter.unusedVariables false
set_option linter.unusedSimpArgs false
set_option maxRecDepth 100000

/-- what back.Check finds -/
def checkW (W : Wd) : Int := if worldB W then 0 else 5
theorem checkW_no {W : Wd} (h : worldB W = false) : checkW W = 5 := by unfold checkW; rw [h]; rfl
theorem checkW_ok {W : Wd} (h : worldB W = true) : checkW W = 0 := by unfold checkW; rw [h]; rfl
def ChkRel (w : World) (W : Wd) (r s : Value) (i : Nat) (wr : World) : Prop := (∀ j (hj : j < W.ss.length), j < i → sessB W.ss[j] = true) ∧ AllBox w r s wr ∧ Below w.heap.size w wr
theorem worldB_fit {W : Wd} (h1 : pairsB W.rows 100 10 = true) (h2 : W.ss.length ≤ 8) (h3 : ∀ i (hi : i < W.ss.length), sessB W.ss[i] = true) : worldB W = (cntOk W && decide ((allL W).length ≤ 100)) := by
  have hall : W.ss.all sessB = true := by
    rw [List.all_eq_true]; intro s hs
    obtain ⟨i, hi, rfl⟩ := List.getElem_of_mem hs
    exact h3 i hi
  rw [cntOk_apart (fun i hi => (pairsB_rising (sessB_iff.1 (h3 i hi)).wr).1)]
  unfold worldB
  rw [h1, decide_eq_true h2, hall]; rfl

set_option maxHeartbeats 4000000 in
theorem backCheck_any (r s : Value) (W : Wd) (w : World) (hW : Wld w w.heap.size r s W) (hWo : Words w) :
    Calls Tryd.prog 22 #[.agg #[r, s]] w fun e w' => e = .returned (.int .i64 (checkW W)) ∧ Below w.heap.size w w' := by
  have HWW := Lib.hid hW
  have HWo := Lib.hid hWo
  obtain ⟨hr, hs⟩ := hW
  obtain ⟨A, c, rfl, hc⟩ := hs.form
  obtain ⟨D, d, rfl, hd⟩ := hr.form
  have hby := hs.bytes
  have HS := Lib.hid hs
  have HR := Lib.hid hr
  clear hs hr hWo
  have b0 : Below w.heap.size w (w.alloc (.cells #[.slice D W.rows.length d, .slice A W.ss.length c] 49)) := (Below.refl _ _).alloc (Nat.le_refl _) _
  have HX := Lib.hid (RowTo.whole w #[.slice D W.rows.length d, .slice A W.ss.length c] 49)
  by_cases h8 : W.ss.length ≤ 8
  case neg =>
    have HP := Lib.hid (checkW_no (worldB_many h8))
    have hd8 : decide ((8 : Int) < (W.ss.length : Int)) = true := decide_eq_true (by omega)
    have hd8' : decide (8 < W.ss.length) = true := decide_eq_true (by omega)
    go_enter Tryd.func22, Tryd.ntmps22
    go_wp2
    go_ret
    exact ⟨by rw [HP.out]; rfl, b0⟩
  have hd8 : decide ((8 : Int) < (W.ss.length : Int)) = false := decide_eq_false (by omega)
  have hd8' : decide (8 < W.ss.length) = false := decide_eq_false (by omega)
  cases hp : pairsB W.rows 100 10
  · have HP := Lib.hid (checkW_no (worldB_rows hp))
    have HPB := Lib.hid hp
    clear hp
    go_enter Tryd.func22, Tryd.ntmps22
    go_wp2_with fail
    refine (listFits_any _ W.rows 10 100 _ (HR.out.step b0) (HWo.out.below b0) (by omega)).mono ?_
    rw [HPB.out]
    rintro e w1 ⟨rfl, hb1⟩
    go_wp2
    go_ret
    exact ⟨by rw [HP.out]; rfl, bel_add' b0 hb1 b0.size⟩
  have HPB := Lib.hid hp
  clear hp
  go_enter Tryd.func22, Tryd.ntmps22
  go_wp2_with fail
  refine (listFits_any _ W.rows 10 100 _ (HR.out.step b0) (HWo.out.below b0) (by omega)).mono ?_
  rw [HPB.out]
  rintro e w1 ⟨rfl, hb1⟩
  have HX1 := HX.out.below hb1 HX.out.lt
  have x1 := HX1.cell (j := 1) (by simp)
  simp only [List.getElem_cons_zero, List.getElem_cons_succ] at x1
  have HXX := Lib.hid HX1
  have HBB := Lib.hid (bel_add' b0 hb1 b0.size)
  clear HX1 HX hb1
  go_wp2
  clear x1
  go_loopw [18] (fun i wr => ∃ k : Nat, k ≤ W.ss.length ∧ i = .int .i64 k ∧ ChkRel w W (.slice D W.rows.length d) (.slice A W.ss.length c) k wr) (fun i _ => W.ss.length - (intOf i).toNat)
  case atStart => exact ⟨0, by omega, rfl, fun j hj h => by omega, HXX.out, HBB.out⟩
  case round =>
    clear HXX HBB b0
    obtain ⟨i, hi, rfl, hok, hbox, bel⟩ := hrel
    have x0 := hbox.cell (j := 0) (by simp)
    have x1 := hbox.cell (j := 1) (by simp)
    simp only [List.getElem_cons_zero, List.getElem_cons_succ] at x0 x1
    have hxl := hbox.lt
    have HOK := Lib.hid hok
    have HX := Lib.hid hbox
    have HB := Lib.hid bel
    clear hok hbox bel
    by_cases hlt : i < W.ss.length
    · obtain ⟨b, off, v1, v2, v3, v4, rfl, hb, hses⟩ := HS.out.pt hlt
      have HW1 := Lib.hid (fun h => worldB_sess (W := W) hlt h)
      have HOK1 := Lib.hid (fun (h : sessB W.ss[i] = true) => (fun j hj hji => if e : j = i then by subst e; exact h else HOK.out j hj (by omega) : ∀ j (hj : j < W.ss.length), j < i + 1 → sessB W.ss[j] = true))
      generalize hsk : W.ss[i] = s at *
      obtain ⟨d0, d1, d2, d3, d4, l1, l2, l3, l4⟩ := hses.keep (w' := wr) hb (Nat.le_refl _) fun p hp => HB.out.cell hp
      obtain ⟨A1, c1, rfl, _⟩ := l1.form
      obtain ⟨A2, c2, rfl, _⟩ := l2.form
      obtain ⟨A3, c3, rfl, _⟩ := l3.form
      obtain ⟨A4, c4, rfl, _⟩ := l4.form
      have HL := Lib.hid hses
      clear l1 l2 l3 l4 hses hsk
      have B0 := Lib.hid (HB.out.alloc HB.out.size (.cells #[.int .i64 s.st, .slice A1 s.set.length c1, .slice A2 s.prep.length c2, .slice A3 s.sav.length c3, .slice A4 s.wr.length c4] 77))
      have X0 := Lib.hid (RowTo.alloc HX.out (.cells #[.int .i64 s.st, .slice A1 s.set.length c1, .slice A2 s.prep.length c2, .slice A3 s.sav.length c3, .slice A4 s.wr.length c4] 77))
      cases hb : sessB s
      · have HP := Lib.hid (checkW_no (HW1.out hb))
        have HQ := Lib.hid hb
        clear hb
        go_wp2_with fail
        refine (sessionFits_any s _ _ _ _ _ (HL.out.l1.step B0.out) (HL.out.l2.step B0.out) (HL.out.l3.step B0.out) (HL.out.l4.step B0.out) (HWo.out.below B0.out)).mono ?_
        rw [HQ.out]
        rintro e w2 ⟨rfl, hb2⟩
        go_wp2
        go_ret
        exact ⟨by rw [HP.out]; rfl, bel_add' B0.out hb2 B0.out.size⟩
      · have HT := Lib.hid (HOK1.out hb)
        have HQ := Lib.hid hb
        clear hb
        go_wp2_with fail
        refine (sessionFits_any s _ _ _ _ _ (HL.out.l1.step B0.out) (HL.out.l2.step B0.out) (HL.out.l3.step B0.out) (HL.out.l4.step B0.out) (HWo.out.below B0.out)).mono ?_
        rw [HQ.out]
        rintro e w2 ⟨rfl, hb2⟩
        have HB2 := Lib.hid (bel_add' B0.out hb2 B0.out.size)
        have HX2 := Lib.hid (X0.out.below hb2 X0.out.lt)
        clear hb2
        go_wp2
        go_roundw
        case rel => exact ⟨i + 1, by omega, by go_num, HT.out, HX2.out, HB2.out⟩
        case measure => simp [intOf]; omega
    · have hall : ∀ j (hj : j < W.ss.length), sessB W.ss[j] = true := fun j hj => HOK.out j hj (by omega)
      have HL := Lib.hid (worldB_fit HPB.out h8 hall)
      have hpr := pairsB_rising HPB.out
      have hwr : ∀ j (hj : j < W.ss.length), W.ss[j].wr.length ≤ 100 := fun j hj => (pairsB_rising (sessB_iff.1 (hall j hj)).wr).2.1
      have HF := Lib.hid (fun (w9 : World) (h9 : Wld w9 w9.heap.size (.slice D W.rows.length d) (.slice A W.ss.length c) W) => rowsFit_any _ _ W w9 h9 hpr.2.1 hpr.1 h8 hwr)
      clear hall hpr hwr
      cases hf : (cntOk W && decide ((allL W).length ≤ 100))
      · have HP := Lib.hid (checkW_no (HL.out.trans hf))
        have HQ := Lib.hid hf
        clear hf
        go_wp2_with fail
        refine (HF.out _ (HWW.out.step HB.out)).mono ?_
        rw [HQ.out]
        rintro e w2 ⟨rfl, hb2⟩
        go_wp2
        go_ret
        exact ⟨by rw [HP.out]; rfl, bel_add' HB.out hb2 HB.out.size⟩
      · have HP := Lib.hid (checkW_ok (HL.out.trans hf))
        have HQ := Lib.hid hf
        clear hf
        go_wp2_with fail
        refine (HF.out _ (HWW.out.step HB.out)).mono ?_
        rw [HQ.out]
        rintro e w2 ⟨rfl, hb2⟩
        go_wp2
        go_ret
        exact ⟨by rw [HP.out]; rfl, bel_add' HB.out hb2 HB.out.size⟩
end Go.Proofs.YtpbaobmegomfpaaDoor
