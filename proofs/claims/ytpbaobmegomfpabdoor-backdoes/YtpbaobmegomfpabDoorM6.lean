/-
  Texts of the proof of BackDoes, one behind the other: RefDid3, RefDid4, RefDid5, RefDid6, RefDid6b, RefDid7, RefDid8.
-/
import Derived.Test.YtpbaobmegomfpabDoorM5
import Derived.Deep.RegionHeld3
import Derived.StillTailTactics
import Derived.Test.YtpbaobmegomfpabDoorM4
/-
  The reference's did: lookups and stores.
-/
namespace Go.Proofs.YtpbaobmegomfpabDoor
open Go.RowKit
set_option linter.unusedVariables false
set_option linter.unusedSimpArgs false
set_option maxRecDepth 100000

theorem found_none (w : World) : Calls Tryd.prog 68 #[.string ⟨#[]⟩, .bool false] w fun e w' => e = .returned (ansV 3 ⟨#[]⟩) ∧ Below w.heap.size w w' := found_any none w
theorem found_some (v : ByteArray) (w : World) : Calls Tryd.prog 68 #[.string v, .bool true] w fun e w' => e = .returned (ansV 2 v) ∧ Below w.heap.size w w' := found_any (some v) w

set_option maxHeartbeats 4000000 in
theorem did_get (base S cap : Nat) (r : Value) (W : Wd) (i : Nat) (key val : ByteArray) (w : World) (h : RefW w base S cap r W) (hw : WorldOk W) (hb : base ≤ w.heap.size) (hi : i < W.ss.length) (hkz : key.size ≤ 8) (hvz : val.size ≤ 60) (hst : W.ss[i].st ≠ 2) :
    Calls Tryd.prog 53 #[.agg #[r, slc S W.ss.length cap], .int .i64 i, .agg #[.int .i64 6, .string key, .string val]] w (DidPost w base S cap W.ss.length (W, fnd' (atL W.ss[i].set key))) := by
  obtain ⟨v1, v2, v3, v4, hs⟩ := h.ses i hi
  obtain ⟨D, d, rfl, hd⟩ := h.rows.form
  obtain ⟨A1, n1, rfl, _⟩ := hs.core.l1.form
  obtain ⟨A2, n2, rfl, _⟩ := hs.core.l2.form
  obtain ⟨A3, n3, rfl, _⟩ := hs.core.l3.form
  obtain ⟨A4, n4, rfl, _⟩ := hs.core.l4.form
  have H0 := Lib.hid (didAt0 w (.slice D W.rows.length d) (.slice (some ⟨S, 0, none⟩) W.ss.length cap) 6 key val W.ss[i].st (.slice A1 W.ss[i].set.length n1) (.slice A2 W.ss[i].prep.length n2) (.slice A3 W.ss[i].sav.length n3) (.slice A4 W.ss[i].wr.length n4))
  have hSw := h.blk.lt
  have bel0 := (doAt0 w (.slice D W.rows.length d) (.slice (some ⟨S, 0, none⟩) W.ss.length cap) 6 key val).bel
  have c0 := (bel0.cell (p := ⟨S, i * 5, none⟩) hSw).trans hs.core.c0
  have c1 := (bel0.cell (p := ⟨S, i * 5 + 1, none⟩) hSw).trans hs.core.c1
  have c2 := (bel0.cell (p := ⟨S, i * 5 + 2, none⟩) hSw).trans hs.core.c2
  have c3 := (bel0.cell (p := ⟨S, i * 5 + 3, none⟩) hSw).trans hs.core.c3
  have c4 := (bel0.cell (p := ⟨S, i * 5 + 4, none⟩) hSw).trans hs.core.c4
  unfold doW0 at c0 c1 c2 c3 c4
  clear bel0
  have hii : (i : Int) < (W.ss.length : Int) := by omega
  have HH := Lib.hid h
  have HS := Lib.hid hs
  have HW := Lib.hid hw
  have t0 : (W.ss[i].st == 2) = false := beq_eq_false_iff_ne.2 hst
  clear h hs hw hst
  unfold slc
  go_enter Tryd.func53, Tryd.ntmps53
  go_wp2_with fail
  have L1 := Lib.hid (HS.out.core.l1.step H0.out.bel)
  unfold didW0 doW0 at L1
  refine (at_any _ W.ss[i].set key _ _ L1.out).mono ?_
  rintro e w5 ⟨rfl, rfl⟩
  obtain ⟨o, HO⟩ : ∃ o, Hid (o = atL W.ss[i].set key) := ⟨_, Lib.hid rfl⟩
  rw [← HO.out]
  clear L1
  have HA : Hid (DidAt w (didW0 w (.slice D W.rows.length d) (.slice (some ⟨S, 0, none⟩) W.ss.length cap) 6 key val W.ss[i].st (.slice A1 W.ss[i].set.length n1) (.slice A2 W.ss[i].prep.length n2) (.slice A3 W.ss[i].sav.length n3) (.slice A4 W.ss[i].wr.length n4)) (.slice D W.rows.length d) (.slice (some ⟨S, 0, none⟩) W.ss.length cap) 6 key val W.ss[i].st (.slice A1 W.ss[i].set.length n1) (.slice A2 W.ss[i].prep.length n2) (.slice A3 W.ss[i].sav.length n3) (.slice A4 W.ss[i].wr.length n4)) := H0
  unfold didW0 doW0 at HA
  clear H0 c0 c1 c2 c3 c4
  generalize ((((((w.alloc (.cells #[.slice D W.rows.length d, .slice (some ⟨S, 0, none⟩) W.ss.length cap] 25)).alloc (.cells #[.int .i64 6, .string key, .string val] 27)).alloc (.cells #[.slice none 0 0, .slice none 0 0] 25)).alloc (.cells #[.int .i64 0, .string ⟨#[]⟩, .int .i64 0] 30)).alloc (.cells #[.int .i64 W.ss[i].st, .slice A1 W.ss[i].set.length n1, .slice A2 W.ss[i].prep.length n2, .slice A3 W.ss[i].sav.length n3, .slice A4 W.ss[i].wr.length n4] 46)).alloc (.cells #[.int .i64 1, .string ⟨#[]⟩, .int .i64 0] 30)) = W5 at *
  cases o with
  | none =>
    rw [atV_none]
    go_wp2_with fail
    have hA := HA.out
    have x0 := hA.X.cell (j := 0) (by simp)
    have x1 := hA.X.cell (j := 1) (by simp)
    simp only [List.getElem_cons_zero, List.getElem_cons_succ] at x0 x1
    have hX5 := hA.X.lt
    have hXR : w.heap.size ≠ w.heap.size + 1 + 1 := by omega
    have hXA : w.heap.size ≠ w.heap.size + 1 + 1 + 1 := by omega
    have HR5 := Lib.hid hA.R
    have HA5 := Lib.hid hA.A
    have HB5 := Lib.hid hA.bel
    have hRw5 := hA.R.lt
    have hAw5 := hA.A.lt
    clear hA
    have kb := Below.refl W5.heap.size W5
    have HSd := Lib.hid (show W5.drew.cell? ⟨w.heap.size, 0, none⟩ = some (.slice D W.rows.length d) ∧ W5.drew.cell? ⟨w.heap.size, 1, none⟩ = some (.slice (some ⟨S, 0, none⟩) W.ss.length cap) from ⟨x0, x1⟩)
    go_region_held3 (fun wx => wx.cell? ⟨w.heap.size, 0, none⟩ = some (.slice D W.rows.length d) ∧ wx.cell? ⟨w.heap.size, 1, none⟩ = some (.slice (some ⟨S, 0, none⟩) W.ss.length cap))
      (first
        | with_reducible exact ⟨x0, x1⟩
        | with_reducible exact HSd.out
        | with_reducible exact ⟨(kb.cell (p := ⟨w.heap.size, 0, none⟩) hX5).trans x0, (kb.cell (p := ⟨w.heap.size, 1, none⟩) hX5).trans x1⟩
        | with_reducible exact ⟨cell_set3 (cell_set2 ((kb.cell (p := ⟨w.heap.size, 0, none⟩) hX5).trans x0) hXR) hXA, cell_set3 (cell_set2 ((kb.cell (p := ⟨w.heap.size, 1, none⟩) hX5).trans x1) hXR) hXA⟩
        | with_reducible exact ⟨cell_set2 ((kb.cell (p := ⟨w.heap.size, 0, none⟩) hX5).trans x0) hXR, cell_set2 ((kb.cell (p := ⟨w.heap.size, 1, none⟩) hX5).trans x1) hXR⟩)
      (first
        | (
          go_at_call 68
          refine (found_none _).mono ?_
          rintro e w6 ⟨rfl, hy⟩
          have kb : Below W5.heap.size W5 w6 := by first | exact hy | exact bel_addN kb hy kb.size | exact bel_add kb hy kb.size
          have R6 := HR5.out.below kb hRw5
          have A6 := HA5.out.below kb hAw5
          have r0 := R6.cell (j := 0) (by simp)
          have r1 := R6.cell (j := 1) (by simp)
          have b0 := A6.cell (j := 0) (by simp)
          have b1 := A6.cell (j := 1) (by simp)
          have b2 := A6.cell (j := 2) (by simp)
          have g0 := R6.frozen 0
          have g1 := R6.frozen 1
          have k0 := A6.frozen 0
          have k1 := A6.frozen 1
          have k2 := A6.frozen 2
          simp only [List.getElem_cons_zero, List.getElem_cons_succ] at r0 r1 b0 b1 b2
          unfold ansV))
    all_goals go_wp2
    all_goals refine bodyPost_ret (v := .tuple #[.agg #[(.slice D W.rows.length d), (.slice (some ⟨S, 0, none⟩) W.ss.length cap)], .agg #[.int .i64 3, .string ⟨#[]⟩, .int .i64 0]]) (by simp [results, Tryd.results53, go_sem, r0, r1, b0, b1, b2]) rfl ?_
    all_goals rw [← HO.out]
    all_goals exact did_answer HH.out hb (((((bel_add' HB5.out kb HB5.out.size).setCell (by show _ ≤ w.heap.size + 1 + 1; omega) _).setCell (by show _ ≤ w.heap.size + 1 + 1; omega) _).setCell (by show _ ≤ w.heap.size + 1 + 1 + 1; omega) _).setCell (by show _ ≤ w.heap.size + 1 + 1 + 1; omega) _ |>.setCell (by show _ ≤ w.heap.size + 1 + 1 + 1; omega) _) (fnd' none)
  | some v =>
    rw [atV_some]
    go_wp2_with fail
    have hA := HA.out
    have x0 := hA.X.cell (j := 0) (by simp)
    have x1 := hA.X.cell (j := 1) (by simp)
    simp only [List.getElem_cons_zero, List.getElem_cons_succ] at x0 x1
    have hX5 := hA.X.lt
    have hXR : w.heap.size ≠ w.heap.size + 1 + 1 := by omega
    have hXA : w.heap.size ≠ w.heap.size + 1 + 1 + 1 := by omega
    have HR5 := Lib.hid hA.R
    have HA5 := Lib.hid hA.A
    have HB5 := Lib.hid hA.bel
    have hRw5 := hA.R.lt
    have hAw5 := hA.A.lt
    clear hA
    have kb := Below.refl W5.heap.size W5
    have HSd := Lib.hid (show W5.drew.cell? ⟨w.heap.size, 0, none⟩ = some (.slice D W.rows.length d) ∧ W5.drew.cell? ⟨w.heap.size, 1, none⟩ = some (.slice (some ⟨S, 0, none⟩) W.ss.length cap) from ⟨x0, x1⟩)
    go_region_held3 (fun wx => wx.cell? ⟨w.heap.size, 0, none⟩ = some (.slice D W.rows.length d) ∧ wx.cell? ⟨w.heap.size, 1, none⟩ = some (.slice (some ⟨S, 0, none⟩) W.ss.length cap))
      (first
        | with_reducible exact ⟨x0, x1⟩
        | with_reducible exact HSd.out
        | with_reducible exact ⟨(kb.cell (p := ⟨w.heap.size, 0, none⟩) hX5).trans x0, (kb.cell (p := ⟨w.heap.size, 1, none⟩) hX5).trans x1⟩
        | with_reducible exact ⟨cell_set3 (cell_set2 ((kb.cell (p := ⟨w.heap.size, 0, none⟩) hX5).trans x0) hXR) hXA, cell_set3 (cell_set2 ((kb.cell (p := ⟨w.heap.size, 1, none⟩) hX5).trans x1) hXR) hXA⟩
        | with_reducible exact ⟨cell_set2 ((kb.cell (p := ⟨w.heap.size, 0, none⟩) hX5).trans x0) hXR, cell_set2 ((kb.cell (p := ⟨w.heap.size, 1, none⟩) hX5).trans x1) hXR⟩)
      (first
        | (
          go_at_call 68
          refine (found_some v _).mono ?_
          rintro e w6 ⟨rfl, hy⟩
          have kb : Below W5.heap.size W5 w6 := by first | exact hy | exact bel_addN kb hy kb.size | exact bel_add kb hy kb.size
          have R6 := HR5.out.below kb hRw5
          have A6 := HA5.out.below kb hAw5
          have r0 := R6.cell (j := 0) (by simp)
          have r1 := R6.cell (j := 1) (by simp)
          have b0 := A6.cell (j := 0) (by simp)
          have b1 := A6.cell (j := 1) (by simp)
          have b2 := A6.cell (j := 2) (by simp)
          have g0 := R6.frozen 0
          have g1 := R6.frozen 1
          have k0 := A6.frozen 0
          have k1 := A6.frozen 1
          have k2 := A6.frozen 2
          simp only [List.getElem_cons_zero, List.getElem_cons_succ] at r0 r1 b0 b1 b2
          unfold ansV))
    all_goals go_wp2
    all_goals refine bodyPost_ret (v := .tuple #[.agg #[(.slice D W.rows.length d), (.slice (some ⟨S, 0, none⟩) W.ss.length cap)], .agg #[.int .i64 2, .string v, .int .i64 0]]) (by simp [results, Tryd.results53, go_sem, r0, r1, b0, b1, b2]) rfl ?_
    all_goals rw [← HO.out]
    all_goals exact did_answer HH.out hb (((((bel_add' HB5.out kb HB5.out.size).setCell (by show _ ≤ w.heap.size + 1 + 1; omega) _).setCell (by show _ ≤ w.heap.size + 1 + 1; omega) _).setCell (by show _ ≤ w.heap.size + 1 + 1 + 1; omega) _).setCell (by show _ ≤ w.heap.size + 1 + 1 + 1; omega) _ |>.setCell (by show _ ≤ w.heap.size + 1 + 1 + 1; omega) _) (fnd' (some v))

set_option maxHeartbeats 4000000 in
theorem did_read_own (base S cap : Nat) (r : Value) (W : Wd) (i : Nat) (key val : ByteArray) (w : World) (h : RefW w base S cap r W) (hw : WorldOk W) (hb : base ≤ w.heap.size) (hi : i < W.ss.length) (hkz : key.size ≤ 8) (hvz : val.size ≤ 60) (v : ByteArray) (hst : W.ss[i].st ≠ 2) (hv : atL W.ss[i].wr key = some v) :
    Calls Tryd.prog 53 #[.agg #[r, slc S W.ss.length cap], .int .i64 i, .agg #[.int .i64 7, .string key, .string val]] w (DidPost w base S cap W.ss.length (W, fnd' (some v))) := by
  obtain ⟨v1, v2, v3, v4, hs⟩ := h.ses i hi
  obtain ⟨D, d, rfl, hd⟩ := h.rows.form
  obtain ⟨A1, n1, rfl, _⟩ := hs.core.l1.form
  obtain ⟨A2, n2, rfl, _⟩ := hs.core.l2.form
  obtain ⟨A3, n3, rfl, _⟩ := hs.core.l3.form
  obtain ⟨A4, n4, rfl, _⟩ := hs.core.l4.form
  have H0 := Lib.hid (didAt0 w (.slice D W.rows.length d) (.slice (some ⟨S, 0, none⟩) W.ss.length cap) 7 key val W.ss[i].st (.slice A1 W.ss[i].set.length n1) (.slice A2 W.ss[i].prep.length n2) (.slice A3 W.ss[i].sav.length n3) (.slice A4 W.ss[i].wr.length n4))
  have hSw := h.blk.lt
  have bel0 := (doAt0 w (.slice D W.rows.length d) (.slice (some ⟨S, 0, none⟩) W.ss.length cap) 7 key val).bel
  have c0 := (bel0.cell (p := ⟨S, i * 5, none⟩) hSw).trans hs.core.c0
  have c1 := (bel0.cell (p := ⟨S, i * 5 + 1, none⟩) hSw).trans hs.core.c1
  have c2 := (bel0.cell (p := ⟨S, i * 5 + 2, none⟩) hSw).trans hs.core.c2
  have c3 := (bel0.cell (p := ⟨S, i * 5 + 3, none⟩) hSw).trans hs.core.c3
  have c4 := (bel0.cell (p := ⟨S, i * 5 + 4, none⟩) hSw).trans hs.core.c4
  unfold doW0 at c0 c1 c2 c3 c4
  clear bel0
  have hii : (i : Int) < (W.ss.length : Int) := by omega
  have HH := Lib.hid h
  have HS := Lib.hid hs
  have HW := Lib.hid hw
  have t0 : (W.ss[i].st == 2) = false := beq_eq_false_iff_ne.2 hst
  have HV := Lib.hid hv
  clear h hs hw hst hv
  unfold slc
  go_enter Tryd.func53, Tryd.ntmps53
  go_wp2_with fail
  have L1 := Lib.hid (HS.out.core.l4.step H0.out.bel)
  unfold didW0 doW0 at L1
  refine (at_any _ W.ss[i].wr key _ _ L1.out).mono ?_
  rw [HV.out, atV_some]
  rintro e w5 ⟨rfl, rfl⟩
  clear L1
  have HA : Hid (DidAt w (didW0 w (.slice D W.rows.length d) (.slice (some ⟨S, 0, none⟩) W.ss.length cap) 7 key val W.ss[i].st (.slice A1 W.ss[i].set.length n1) (.slice A2 W.ss[i].prep.length n2) (.slice A3 W.ss[i].sav.length n3) (.slice A4 W.ss[i].wr.length n4)) (.slice D W.rows.length d) (.slice (some ⟨S, 0, none⟩) W.ss.length cap) 7 key val W.ss[i].st (.slice A1 W.ss[i].set.length n1) (.slice A2 W.ss[i].prep.length n2) (.slice A3 W.ss[i].sav.length n3) (.slice A4 W.ss[i].wr.length n4)) := H0
  unfold didW0 doW0 at HA
  clear H0 c0 c1 c2 c3 c4
  generalize ((((((w.alloc (.cells #[.slice D W.rows.length d, .slice (some ⟨S, 0, none⟩) W.ss.length cap] 25)).alloc (.cells #[.int .i64 7, .string key, .string val] 27)).alloc (.cells #[.slice none 0 0, .slice none 0 0] 25)).alloc (.cells #[.int .i64 0, .string ⟨#[]⟩, .int .i64 0] 30)).alloc (.cells #[.int .i64 W.ss[i].st, .slice A1 W.ss[i].set.length n1, .slice A2 W.ss[i].prep.length n2, .slice A3 W.ss[i].sav.length n3, .slice A4 W.ss[i].wr.length n4] 46)).alloc (.cells #[.int .i64 1, .string ⟨#[]⟩, .int .i64 0] 30)) = W5 at *
  go_wp2_with fail
  have hA := HA.out
  have x0 := hA.X.cell (j := 0) (by simp)
  have x1 := hA.X.cell (j := 1) (by simp)
  simp only [List.getElem_cons_zero, List.getElem_cons_succ] at x0 x1
  have hX5 := hA.X.lt
  have hXR : w.heap.size ≠ w.heap.size + 1 + 1 := by omega
  have hXA : w.heap.size ≠ w.heap.size + 1 + 1 + 1 := by omega
  have HR5 := Lib.hid hA.R
  have HA5 := Lib.hid hA.A
  have HB5 := Lib.hid hA.bel
  have hRw5 := hA.R.lt
  have hAw5 := hA.A.lt
  clear hA
  have kb := Below.refl W5.heap.size W5
  have HSd := Lib.hid (show W5.drew.cell? ⟨w.heap.size, 0, none⟩ = some (.slice D W.rows.length d) ∧ W5.drew.cell? ⟨w.heap.size, 1, none⟩ = some (.slice (some ⟨S, 0, none⟩) W.ss.length cap) from ⟨x0, x1⟩)
  go_region_held3 (fun wx => wx.cell? ⟨w.heap.size, 0, none⟩ = some (.slice D W.rows.length d) ∧ wx.cell? ⟨w.heap.size, 1, none⟩ = some (.slice (some ⟨S, 0, none⟩) W.ss.length cap))
    (first
      | with_reducible exact ⟨x0, x1⟩
      | with_reducible exact HSd.out
      | with_reducible exact ⟨(kb.cell (p := ⟨w.heap.size, 0, none⟩) hX5).trans x0, (kb.cell (p := ⟨w.heap.size, 1, none⟩) hX5).trans x1⟩
      | with_reducible exact ⟨cell_set3 (cell_set2 ((kb.cell (p := ⟨w.heap.size, 0, none⟩) hX5).trans x0) hXR) hXA, cell_set3 (cell_set2 ((kb.cell (p := ⟨w.heap.size, 1, none⟩) hX5).trans x1) hXR) hXA⟩
      | with_reducible exact ⟨cell_set2 ((kb.cell (p := ⟨w.heap.size, 0, none⟩) hX5).trans x0) hXR, cell_set2 ((kb.cell (p := ⟨w.heap.size, 1, none⟩) hX5).trans x1) hXR⟩)
    (first
      | (
        go_at_call 68
        refine (found_some v _).mono ?_
        rintro e w6 ⟨rfl, hy⟩
        have kb : Below W5.heap.size W5 w6 := by first | exact hy | exact bel_addN kb hy kb.size | exact bel_add kb hy kb.size
        have R6 := HR5.out.below kb hRw5
        have A6 := HA5.out.below kb hAw5
        have r0 := R6.cell (j := 0) (by simp)
        have r1 := R6.cell (j := 1) (by simp)
        have b0 := A6.cell (j := 0) (by simp)
        have b1 := A6.cell (j := 1) (by simp)
        have b2 := A6.cell (j := 2) (by simp)
        have g0 := R6.frozen 0
        have g1 := R6.frozen 1
        have k0 := A6.frozen 0
        have k1 := A6.frozen 1
        have k2 := A6.frozen 2
        simp only [List.getElem_cons_zero, List.getElem_cons_succ] at r0 r1 b0 b1 b2
        unfold ansV))
  all_goals go_wp2
  all_goals refine bodyPost_ret (v := .tuple #[.agg #[(.slice D W.rows.length d), (.slice (some ⟨S, 0, none⟩) W.ss.length cap)], .agg #[.int .i64 2, .string v, .int .i64 0]]) (by simp [results, Tryd.results53, go_sem, r0, r1, b0, b1, b2]) rfl ?_
  all_goals exact did_answer HH.out hb (((((bel_add' HB5.out kb HB5.out.size).setCell (by show _ ≤ w.heap.size + 1 + 1; omega) _).setCell (by show _ ≤ w.heap.size + 1 + 1; omega) _).setCell (by show _ ≤ w.heap.size + 1 + 1 + 1; omega) _).setCell (by show _ ≤ w.heap.size + 1 + 1 + 1; omega) _ |>.setCell (by show _ ≤ w.heap.size + 1 + 1 + 1; omega) _) (fnd' (some v))

set_option maxHeartbeats 4000000 in
theorem did_read_rows (base S cap : Nat) (r : Value) (W : Wd) (i : Nat) (key val : ByteArray) (w : World) (h : RefW w base S cap r W) (hw : WorldOk W) (hb : base ≤ w.heap.size) (hi : i < W.ss.length) (hkz : key.size ≤ 8) (hvz : val.size ≤ 60) (hst : W.ss[i].st ≠ 2) (hv : atL W.ss[i].wr key = none) :
    Calls Tryd.prog 53 #[.agg #[r, slc S W.ss.length cap], .int .i64 i, .agg #[.int .i64 7, .string key, .string val]] w (DidPost w base S cap W.ss.length (W, fnd' (atL W.rows key))) := by
  obtain ⟨v1, v2, v3, v4, hs⟩ := h.ses i hi
  obtain ⟨D, d, rfl, hd⟩ := h.rows.form
  obtain ⟨A1, n1, rfl, _⟩ := hs.core.l1.form
  obtain ⟨A2, n2, rfl, _⟩ := hs.core.l2.form
  obtain ⟨A3, n3, rfl, _⟩ := hs.core.l3.form
  obtain ⟨A4, n4, rfl, _⟩ := hs.core.l4.form
  have H0 := Lib.hid (didAt0 w (.slice D W.rows.length d) (.slice (some ⟨S, 0, none⟩) W.ss.length cap) 7 key val W.ss[i].st (.slice A1 W.ss[i].set.length n1) (.slice A2 W.ss[i].prep.length n2) (.slice A3 W.ss[i].sav.length n3) (.slice A4 W.ss[i].wr.length n4))
  have hSw := h.blk.lt
  have bel0 := (doAt0 w (.slice D W.rows.length d) (.slice (some ⟨S, 0, none⟩) W.ss.length cap) 7 key val).bel
  have c0 := (bel0.cell (p := ⟨S, i * 5, none⟩) hSw).trans hs.core.c0
  have c1 := (bel0.cell (p := ⟨S, i * 5 + 1, none⟩) hSw).trans hs.core.c1
  have c2 := (bel0.cell (p := ⟨S, i * 5 + 2, none⟩) hSw).trans hs.core.c2
  have c3 := (bel0.cell (p := ⟨S, i * 5 + 3, none⟩) hSw).trans hs.core.c3
  have c4 := (bel0.cell (p := ⟨S, i * 5 + 4, none⟩) hSw).trans hs.core.c4
  unfold doW0 at c0 c1 c2 c3 c4
  clear bel0
  have hii : (i : Int) < (W.ss.length : Int) := by omega
  have HH := Lib.hid h
  have HS := Lib.hid hs
  have HW := Lib.hid hw
  have t0 : (W.ss[i].st == 2) = false := beq_eq_false_iff_ne.2 hst
  have HV := Lib.hid hv
  clear h hs hw hst hv
  unfold slc
  go_enter Tryd.func53, Tryd.ntmps53
  go_wp2_with fail
  have L1 := Lib.hid (HS.out.core.l4.step H0.out.bel)
  have L2 := Lib.hid (HH.out.rows.step H0.out.bel)
  unfold didW0 doW0 at L1 L2
  refine (at_any _ W.ss[i].wr key _ _ L1.out).mono ?_
  rw [HV.out, atV_none]
  rintro e w5 ⟨rfl, rfl⟩
  clear L1
  have HA : Hid (DidAt w (didW0 w (.slice D W.rows.length d) (.slice (some ⟨S, 0, none⟩) W.ss.length cap) 7 key val W.ss[i].st (.slice A1 W.ss[i].set.length n1) (.slice A2 W.ss[i].prep.length n2) (.slice A3 W.ss[i].sav.length n3) (.slice A4 W.ss[i].wr.length n4)) (.slice D W.rows.length d) (.slice (some ⟨S, 0, none⟩) W.ss.length cap) 7 key val W.ss[i].st (.slice A1 W.ss[i].set.length n1) (.slice A2 W.ss[i].prep.length n2) (.slice A3 W.ss[i].sav.length n3) (.slice A4 W.ss[i].wr.length n4)) := H0
  unfold didW0 doW0 at HA
  clear H0 c0 c1 c2 c3 c4
  generalize ((((((w.alloc (.cells #[.slice D W.rows.length d, .slice (some ⟨S, 0, none⟩) W.ss.length cap] 25)).alloc (.cells #[.int .i64 7, .string key, .string val] 27)).alloc (.cells #[.slice none 0 0, .slice none 0 0] 25)).alloc (.cells #[.int .i64 0, .string ⟨#[]⟩, .int .i64 0] 30)).alloc (.cells #[.int .i64 W.ss[i].st, .slice A1 W.ss[i].set.length n1, .slice A2 W.ss[i].prep.length n2, .slice A3 W.ss[i].sav.length n3, .slice A4 W.ss[i].wr.length n4] 46)).alloc (.cells #[.int .i64 1, .string ⟨#[]⟩, .int .i64 0] 30)) = W5 at *
  have x0 := HA.out.X.cell (j := 0) (by simp)
  have y1 := HA.out.Y.cell (j := 1) (by simp)
  simp only [List.getElem_cons_zero, List.getElem_cons_succ] at x0 y1
  go_wp2_with fail
  refine (at_any _ W.rows key _ _ L2.out).mono ?_
  rintro e w5 ⟨rfl, rfl⟩
  obtain ⟨o, HO⟩ : ∃ o, Hid (o = atL W.rows key) := ⟨_, Lib.hid rfl⟩
  rw [← HO.out]
  clear L2 x0 y1
  cases o with
  | none =>
    rw [atV_none]
    go_wp2_with fail
    have hA := HA.out
    have x0 := hA.X.cell (j := 0) (by simp)
    have x1 := hA.X.cell (j := 1) (by simp)
    simp only [List.getElem_cons_zero, List.getElem_cons_succ] at x0 x1
    have hX5 := hA.X.lt
    have hXR : w.heap.size ≠ w.heap.size + 1 + 1 := by omega
    have hXA : w.heap.size ≠ w.heap.size + 1 + 1 + 1 := by omega
    have HR5 := Lib.hid hA.R
    have HA5 := Lib.hid hA.A
    have HB5 := Lib.hid hA.bel
    have hRw5 := hA.R.lt
    have hAw5 := hA.A.lt
    clear hA
    have kb := Below.refl W5.heap.size W5
    have HSd := Lib.hid (show W5.drew.cell? ⟨w.heap.size, 0, none⟩ = some (.slice D W.rows.length d) ∧ W5.drew.cell? ⟨w.heap.size, 1, none⟩ = some (.slice (some ⟨S, 0, none⟩) W.ss.length cap) from ⟨x0, x1⟩)
    go_region_held3 (fun wx => wx.cell? ⟨w.heap.size, 0, none⟩ = some (.slice D W.rows.length d) ∧ wx.cell? ⟨w.heap.size, 1, none⟩ = some (.slice (some ⟨S, 0, none⟩) W.ss.length cap))
      (first
        | with_reducible exact ⟨x0, x1⟩
        | with_reducible exact HSd.out
        | with_reducible exact ⟨(kb.cell (p := ⟨w.heap.size, 0, none⟩) hX5).trans x0, (kb.cell (p := ⟨w.heap.size, 1, none⟩) hX5).trans x1⟩
        | with_reducible exact ⟨cell_set3 (cell_set2 ((kb.cell (p := ⟨w.heap.size, 0, none⟩) hX5).trans x0) hXR) hXA, cell_set3 (cell_set2 ((kb.cell (p := ⟨w.heap.size, 1, none⟩) hX5).trans x1) hXR) hXA⟩
        | with_reducible exact ⟨cell_set2 ((kb.cell (p := ⟨w.heap.size, 0, none⟩) hX5).trans x0) hXR, cell_set2 ((kb.cell (p := ⟨w.heap.size, 1, none⟩) hX5).trans x1) hXR⟩)
      (first
        | (
          go_at_call 68
          refine (found_none _).mono ?_
          rintro e w6 ⟨rfl, hy⟩
          have kb : Below W5.heap.size W5 w6 := by first | exact hy | exact bel_addN kb hy kb.size | exact bel_add kb hy kb.size
          have R6 := HR5.out.below kb hRw5
          have A6 := HA5.out.below kb hAw5
          have r0 := R6.cell (j := 0) (by simp)
          have r1 := R6.cell (j := 1) (by simp)
          have b0 := A6.cell (j := 0) (by simp)
          have b1 := A6.cell (j := 1) (by simp)
          have b2 := A6.cell (j := 2) (by simp)
          have g0 := R6.frozen 0
          have g1 := R6.frozen 1
          have k0 := A6.frozen 0
          have k1 := A6.frozen 1
          have k2 := A6.frozen 2
          simp only [List.getElem_cons_zero, List.getElem_cons_succ] at r0 r1 b0 b1 b2
          unfold ansV))
    all_goals go_wp2
    all_goals refine bodyPost_ret (v := .tuple #[.agg #[(.slice D W.rows.length d), (.slice (some ⟨S, 0, none⟩) W.ss.length cap)], .agg #[.int .i64 3, .string ⟨#[]⟩, .int .i64 0]]) (by simp [results, Tryd.results53, go_sem, r0, r1, b0, b1, b2]) rfl ?_
    all_goals rw [← HO.out]
    all_goals exact did_answer HH.out hb (((((bel_add' HB5.out kb HB5.out.size).setCell (by show _ ≤ w.heap.size + 1 + 1; omega) _).setCell (by show _ ≤ w.heap.size + 1 + 1; omega) _).setCell (by show _ ≤ w.heap.size + 1 + 1 + 1; omega) _).setCell (by show _ ≤ w.heap.size + 1 + 1 + 1; omega) _ |>.setCell (by show _ ≤ w.heap.size + 1 + 1 + 1; omega) _) (fnd' none)
  | some v =>
    rw [atV_some]
    go_wp2_with fail
    have hA := HA.out
    have x0 := hA.X.cell (j := 0) (by simp)
    have x1 := hA.X.cell (j := 1) (by simp)
    simp only [List.getElem_cons_zero, List.getElem_cons_succ] at x0 x1
    have hX5 := hA.X.lt
    have hXR : w.heap.size ≠ w.heap.size + 1 + 1 := by omega
    have hXA : w.heap.size ≠ w.heap.size + 1 + 1 + 1 := by omega
    have HR5 := Lib.hid hA.R
    have HA5 := Lib.hid hA.A
    have HB5 := Lib.hid hA.bel
    have hRw5 := hA.R.lt
    have hAw5 := hA.A.lt
    clear hA
    have kb := Below.refl W5.heap.size W5
    have HSd := Lib.hid (show W5.drew.cell? ⟨w.heap.size, 0, none⟩ = some (.slice D W.rows.length d) ∧ W5.drew.cell? ⟨w.heap.size, 1, none⟩ = some (.slice (some ⟨S, 0, none⟩) W.ss.length cap) from ⟨x0, x1⟩)
    go_region_held3 (fun wx => wx.cell? ⟨w.heap.size, 0, none⟩ = some (.slice D W.rows.length d) ∧ wx.cell? ⟨w.heap.size, 1, none⟩ = some (.slice (some ⟨S, 0, none⟩) W.ss.length cap))
      (first
        | with_reducible exact ⟨x0, x1⟩
        | with_reducible exact HSd.out
        | with_reducible exact ⟨(kb.cell (p := ⟨w.heap.size, 0, none⟩) hX5).trans x0, (kb.cell (p := ⟨w.heap.size, 1, none⟩) hX5).trans x1⟩
        | with_reducible exact ⟨cell_set3 (cell_set2 ((kb.cell (p := ⟨w.heap.size, 0, none⟩) hX5).trans x0) hXR) hXA, cell_set3 (cell_set2 ((kb.cell (p := ⟨w.heap.size, 1, none⟩) hX5).trans x1) hXR) hXA⟩
        | with_reducible exact ⟨cell_set2 ((kb.cell (p := ⟨w.heap.size, 0, none⟩) hX5).trans x0) hXR, cell_set2 ((kb.cell (p := ⟨w.heap.size, 1, none⟩) hX5).trans x1) hXR⟩)
      (first
        | (
          go_at_call 68
          refine (found_some v _).mono ?_
          rintro e w6 ⟨rfl, hy⟩
          have kb : Below W5.heap.size W5 w6 := by first | exact hy | exact bel_addN kb hy kb.size | exact bel_add kb hy kb.size
          have R6 := HR5.out.below kb hRw5
          have A6 := HA5.out.below kb hAw5
          have r0 := R6.cell (j := 0) (by simp)
          have r1 := R6.cell (j := 1) (by simp)
          have b0 := A6.cell (j := 0) (by simp)
          have b1 := A6.cell (j := 1) (by simp)
          have b2 := A6.cell (j := 2) (by simp)
          have g0 := R6.frozen 0
          have g1 := R6.frozen 1
          have k0 := A6.frozen 0
          have k1 := A6.frozen 1
          have k2 := A6.frozen 2
          simp only [List.getElem_cons_zero, List.getElem_cons_succ] at r0 r1 b0 b1 b2
          unfold ansV))
    all_goals go_wp2
    all_goals refine bodyPost_ret (v := .tuple #[.agg #[(.slice D W.rows.length d), (.slice (some ⟨S, 0, none⟩) W.ss.length cap)], .agg #[.int .i64 2, .string v, .int .i64 0]]) (by simp [results, Tryd.results53, go_sem, r0, r1, b0, b1, b2]) rfl ?_
    all_goals rw [← HO.out]
    all_goals exact did_answer HH.out hb (((((bel_add' HB5.out kb HB5.out.size).setCell (by show _ ≤ w.heap.size + 1 + 1; omega) _).setCell (by show _ ≤ w.heap.size + 1 + 1; omega) _).setCell (by show _ ≤ w.heap.size + 1 + 1 + 1; omega) _).setCell (by show _ ≤ w.heap.size + 1 + 1 + 1; omega) _ |>.setCell (by show _ ≤ w.heap.size + 1 + 1 + 1; omega) _) (fnd' (some v))

set_option maxHeartbeats 4000000 in
theorem did_set_full (base S cap : Nat) (r : Value) (W : Wd) (i : Nat) (key val : ByteArray) (w : World) (h : RefW w base S cap r W) (hw : WorldOk W) (hb : base ≤ w.heap.size) (hi : i < W.ss.length) (hkz : key.size ≤ 8) (hvz : val.size ≤ 60) (hst : W.ss[i].st ≠ 2) (hf : fndL W.ss[i].set key = false) (h6 : 6 ≤ W.ss[i].set.length) :
    Calls Tryd.prog 53 #[.agg #[r, slc S W.ss.length cap], .int .i64 i, .agg #[.int .i64 9, .string key, .string val]] w (DidPost w base S cap W.ss.length (W, no' tFull)) := by
  obtain ⟨v1, v2, v3, v4, hs⟩ := h.ses i hi
  obtain ⟨D, d, rfl, hd⟩ := h.rows.form
  obtain ⟨A1, n1, rfl, _⟩ := hs.core.l1.form
  obtain ⟨A2, n2, rfl, _⟩ := hs.core.l2.form
  obtain ⟨A3, n3, rfl, _⟩ := hs.core.l3.form
  obtain ⟨A4, n4, rfl, _⟩ := hs.core.l4.form
  have H0 := Lib.hid (didAt0 w (.slice D W.rows.length d) (.slice (some ⟨S, 0, none⟩) W.ss.length cap) 9 key val W.ss[i].st (.slice A1 W.ss[i].set.length n1) (.slice A2 W.ss[i].prep.length n2) (.slice A3 W.ss[i].sav.length n3) (.slice A4 W.ss[i].wr.length n4))
  have hSw := h.blk.lt
  have bel0 := (doAt0 w (.slice D W.rows.length d) (.slice (some ⟨S, 0, none⟩) W.ss.length cap) 9 key val).bel
  have c0 := (bel0.cell (p := ⟨S, i * 5, none⟩) hSw).trans hs.core.c0
  have c1 := (bel0.cell (p := ⟨S, i * 5 + 1, none⟩) hSw).trans hs.core.c1
  have c2 := (bel0.cell (p := ⟨S, i * 5 + 2, none⟩) hSw).trans hs.core.c2
  have c3 := (bel0.cell (p := ⟨S, i * 5 + 3, none⟩) hSw).trans hs.core.c3
  have c4 := (bel0.cell (p := ⟨S, i * 5 + 4, none⟩) hSw).trans hs.core.c4
  unfold doW0 at c0 c1 c2 c3 c4
  clear bel0
  have hii : (i : Int) < (W.ss.length : Int) := by omega
  have HH := Lib.hid h
  have HS := Lib.hid hs
  have HW := Lib.hid hw
  have t0 : (W.ss[i].st == 2) = false := beq_eq_false_iff_ne.2 hst
  have t1 : decide ((6 : Int) ≤ (W.ss[i].set.length : Int)) = true := decide_eq_true (by omega)
  have HF := Lib.hid (show atL W.ss[i].set key = none by unfold fndL at hf; simpa using hf)
  clear h hs hw hst hf
  unfold slc
  go_enter Tryd.func53, Tryd.ntmps53
  go_wp2_with fail
  have L1 := Lib.hid (HS.out.core.l1.step H0.out.bel)
  unfold didW0 doW0 at L1
  refine (at_any _ W.ss[i].set key _ _ L1.out).mono ?_
  rw [HF.out, atV_none]
  rintro e w5 ⟨rfl, rfl⟩
  clear L1
  go_wp2_with fail
  have HA : Hid (DidAt w (didW0 w (.slice D W.rows.length d) (.slice (some ⟨S, 0, none⟩) W.ss.length cap) 9 key val W.ss[i].st (.slice A1 W.ss[i].set.length n1) (.slice A2 W.ss[i].prep.length n2) (.slice A3 W.ss[i].sav.length n3) (.slice A4 W.ss[i].wr.length n4)) (.slice D W.rows.length d) (.slice (some ⟨S, 0, none⟩) W.ss.length cap) 9 key val W.ss[i].st (.slice A1 W.ss[i].set.length n1) (.slice A2 W.ss[i].prep.length n2) (.slice A3 W.ss[i].sav.length n3) (.slice A4 W.ss[i].wr.length n4)) := H0
  unfold didW0 doW0 at HA
  clear H0 c0 c1 c2 c3 c4
  generalize ((((((w.alloc (.cells #[.slice D W.rows.length d, .slice (some ⟨S, 0, none⟩) W.ss.length cap] 25)).alloc (.cells #[.int .i64 9, .string key, .string val] 27)).alloc (.cells #[.slice none 0 0, .slice none 0 0] 25)).alloc (.cells #[.int .i64 0, .string ⟨#[]⟩, .int .i64 0] 30)).alloc (.cells #[.int .i64 W.ss[i].st, .slice A1 W.ss[i].set.length n1, .slice A2 W.ss[i].prep.length n2, .slice A3 W.ss[i].sav.length n3, .slice A4 W.ss[i].wr.length n4] 46)).alloc (.cells #[.int .i64 1, .string ⟨#[]⟩, .int .i64 0] 30)) = W5 at *
  have hA := HA.out
  have x0 := hA.X.cell (j := 0) (by simp)
  have x1 := hA.X.cell (j := 1) (by simp)
  simp only [List.getElem_cons_zero, List.getElem_cons_succ] at x0 x1
  have hX5 := hA.X.lt
  have hXR : w.heap.size ≠ w.heap.size + 1 + 1 := by omega
  have hXA : w.heap.size ≠ w.heap.size + 1 + 1 + 1 := by omega
  have HR5 := Lib.hid hA.R
  have HA5 := Lib.hid hA.A
  have HB5 := Lib.hid hA.bel
  have hRw5 := hA.R.lt
  have hAw5 := hA.A.lt
  clear hA
  have kb := Below.refl W5.heap.size W5
  have HSd := Lib.hid (show W5.drew.cell? ⟨w.heap.size, 0, none⟩ = some (.slice D W.rows.length d) ∧ W5.drew.cell? ⟨w.heap.size, 1, none⟩ = some (.slice (some ⟨S, 0, none⟩) W.ss.length cap) from ⟨x0, x1⟩)
  go_region_held3 (fun wx => wx.cell? ⟨w.heap.size, 0, none⟩ = some (.slice D W.rows.length d) ∧ wx.cell? ⟨w.heap.size, 1, none⟩ = some (.slice (some ⟨S, 0, none⟩) W.ss.length cap))
    (first
      | with_reducible exact ⟨x0, x1⟩
      | with_reducible exact HSd.out
      | with_reducible exact ⟨(kb.cell (p := ⟨w.heap.size, 0, none⟩) hX5).trans x0, (kb.cell (p := ⟨w.heap.size, 1, none⟩) hX5).trans x1⟩
      | with_reducible exact ⟨cell_set3 (cell_set2 ((kb.cell (p := ⟨w.heap.size, 0, none⟩) hX5).trans x0) hXR) hXA, cell_set3 (cell_set2 ((kb.cell (p := ⟨w.heap.size, 1, none⟩) hX5).trans x1) hXR) hXA⟩
      | with_reducible exact ⟨cell_set2 ((kb.cell (p := ⟨w.heap.size, 0, none⟩) hX5).trans x0) hXR, cell_set2 ((kb.cell (p := ⟨w.heap.size, 1, none⟩) hX5).trans x1) hXR⟩)
    (first
      | (
        go_at_call 67
        refine (no_any tFull _).mono ?_
        rintro e w6 ⟨rfl, hy⟩
        have kb : Below W5.heap.size W5 w6 := by first | exact hy | exact bel_addN kb hy kb.size | exact bel_add kb hy kb.size
        have R6 := HR5.out.below kb hRw5
        have A6 := HA5.out.below kb hAw5
        have r0 := R6.cell (j := 0) (by simp)
        have r1 := R6.cell (j := 1) (by simp)
        have b0 := A6.cell (j := 0) (by simp)
        have b1 := A6.cell (j := 1) (by simp)
        have b2 := A6.cell (j := 2) (by simp)
        have g0 := R6.frozen 0
        have g1 := R6.frozen 1
        have k0 := A6.frozen 0
        have k1 := A6.frozen 1
        have k2 := A6.frozen 2
        simp only [List.getElem_cons_zero, List.getElem_cons_succ] at r0 r1 b0 b1 b2
        unfold ansV))
  all_goals go_wp2
  all_goals refine bodyPost_ret (v := .tuple #[.agg #[(.slice D W.rows.length d), (.slice (some ⟨S, 0, none⟩) W.ss.length cap)], .agg #[.int .i64 4, .string tFull, .int .i64 0]]) (by simp [results, Tryd.results53, go_sem, r0, r1, b0, b1, b2]) rfl ?_
  all_goals exact did_answer HH.out hb (((((bel_add' HB5.out kb HB5.out.size).setCell (by show _ ≤ w.heap.size + 1 + 1; omega) _).setCell (by show _ ≤ w.heap.size + 1 + 1; omega) _).setCell (by show _ ≤ w.heap.size + 1 + 1 + 1; omega) _).setCell (by show _ ≤ w.heap.size + 1 + 1 + 1; omega) _ |>.setCell (by show _ ≤ w.heap.size + 1 + 1 + 1; omega) _) (no' tFull)

set_option maxHeartbeats 4000000 in
theorem did_prep_full (base S cap : Nat) (r : Value) (W : Wd) (i : Nat) (key val : ByteArray) (w : World) (h : RefW w base S cap r W) (hw : WorldOk W) (hb : base ≤ w.heap.size) (hi : i < W.ss.length) (hkz : key.size ≤ 8) (hvz : val.size ≤ 60) (hst : W.ss[i].st ≠ 2) (hf : fndL W.ss[i].prep key = false) (h6 : 6 ≤ W.ss[i].prep.length) :
    Calls Tryd.prog 53 #[.agg #[r, slc S W.ss.length cap], .int .i64 i, .agg #[.int .i64 11, .string key, .string val]] w (DidPost w base S cap W.ss.length (W, no' tFull)) := by
  obtain ⟨v1, v2, v3, v4, hs⟩ := h.ses i hi
  obtain ⟨D, d, rfl, hd⟩ := h.rows.form
  obtain ⟨A1, n1, rfl, _⟩ := hs.core.l1.form
  obtain ⟨A2, n2, rfl, _⟩ := hs.core.l2.form
  obtain ⟨A3, n3, rfl, _⟩ := hs.core.l3.form
  obtain ⟨A4, n4, rfl, _⟩ := hs.core.l4.form
  have H0 := Lib.hid (didAt0 w (.slice D W.rows.length d) (.slice (some ⟨S, 0, none⟩) W.ss.length cap) 11 key val W.ss[i].st (.slice A1 W.ss[i].set.length n1) (.slice A2 W.ss[i].prep.length n2) (.slice A3 W.ss[i].sav.length n3) (.slice A4 W.ss[i].wr.length n4))
  have hSw := h.blk.lt
  have bel0 := (doAt0 w (.slice D W.rows.length d) (.slice (some ⟨S, 0, none⟩) W.ss.length cap) 11 key val).bel
  have c0 := (bel0.cell (p := ⟨S, i * 5, none⟩) hSw).trans hs.core.c0
  have c1 := (bel0.cell (p := ⟨S, i * 5 + 1, none⟩) hSw).trans hs.core.c1
  have c2 := (bel0.cell (p := ⟨S, i * 5 + 2, none⟩) hSw).trans hs.core.c2
  have c3 := (bel0.cell (p := ⟨S, i * 5 + 3, none⟩) hSw).trans hs.core.c3
  have c4 := (bel0.cell (p := ⟨S, i * 5 + 4, none⟩) hSw).trans hs.core.c4
  unfold doW0 at c0 c1 c2 c3 c4
  clear bel0
  have hii : (i : Int) < (W.ss.length : Int) := by omega
  have HH := Lib.hid h
  have HS := Lib.hid hs
  have HW := Lib.hid hw
  have t0 : (W.ss[i].st == 2) = false := beq_eq_false_iff_ne.2 hst
  have t1 : decide ((6 : Int) ≤ (W.ss[i].prep.length : Int)) = true := decide_eq_true (by omega)
  have HF := Lib.hid (show atL W.ss[i].prep key = none by unfold fndL at hf; simpa using hf)
  clear h hs hw hst hf
  unfold slc
  go_enter Tryd.func53, Tryd.ntmps53
  go_wp2_with fail
  have L1 := Lib.hid (HS.out.core.l2.step H0.out.bel)
  unfold didW0 doW0 at L1
  refine (at_any _ W.ss[i].prep key _ _ L1.out).mono ?_
  rw [HF.out, atV_none]
  rintro e w5 ⟨rfl, rfl⟩
  clear L1
  go_wp2_with fail
  have HA : Hid (DidAt w (didW0 w (.slice D W.rows.length d) (.slice (some ⟨S, 0, none⟩) W.ss.length cap) 11 key val W.ss[i].st (.slice A1 W.ss[i].set.length n1) (.slice A2 W.ss[i].prep.length n2) (.slice A3 W.ss[i].sav.length n3) (.slice A4 W.ss[i].wr.length n4)) (.slice D W.rows.length d) (.slice (some ⟨S, 0, none⟩) W.ss.length cap) 11 key val W.ss[i].st (.slice A1 W.ss[i].set.length n1) (.slice A2 W.ss[i].prep.length n2) (.slice A3 W.ss[i].sav.length n3) (.slice A4 W.ss[i].wr.length n4)) := H0
  unfold didW0 doW0 at HA
  clear H0 c0 c1 c2 c3 c4
  generalize ((((((w.alloc (.cells #[.slice D W.rows.length d, .slice (some ⟨S, 0, none⟩) W.ss.length cap] 25)).alloc (.cells #[.int .i64 11, .string key, .string val] 27)).alloc (.cells #[.slice none 0 0, .slice none 0 0] 25)).alloc (.cells #[.int .i64 0, .string ⟨#[]⟩, .int .i64 0] 30)).alloc (.cells #[.int .i64 W.ss[i].st, .slice A1 W.ss[i].set.length n1, .slice A2 W.ss[i].prep.length n2, .slice A3 W.ss[i].sav.length n3, .slice A4 W.ss[i].wr.length n4] 46)).alloc (.cells #[.int .i64 1, .string ⟨#[]⟩, .int .i64 0] 30)) = W5 at *
  have hA := HA.out
  have x0 := hA.X.cell (j := 0) (by simp)
  have x1 := hA.X.cell (j := 1) (by simp)
  simp only [List.getElem_cons_zero, List.getElem_cons_succ] at x0 x1
  have hX5 := hA.X.lt
  have hXR : w.heap.size ≠ w.heap.size + 1 + 1 := by omega
  have hXA : w.heap.size ≠ w.heap.size + 1 + 1 + 1 := by omega
  have HR5 := Lib.hid hA.R
  have HA5 := Lib.hid hA.A
  have HB5 := Lib.hid hA.bel
  have hRw5 := hA.R.lt
  have hAw5 := hA.A.lt
  clear hA
  have kb := Below.refl W5.heap.size W5
  have HSd := Lib.hid (show W5.drew.cell? ⟨w.heap.size, 0, none⟩ = some (.slice D W.rows.length d) ∧ W5.drew.cell? ⟨w.heap.size, 1, none⟩ = some (.slice (some ⟨S, 0, none⟩) W.ss.length cap) from ⟨x0, x1⟩)
  go_region_held3 (fun wx => wx.cell? ⟨w.heap.size, 0, none⟩ = some (.slice D W.rows.length d) ∧ wx.cell? ⟨w.heap.size, 1, none⟩ = some (.slice (some ⟨S, 0, none⟩) W.ss.length cap))
    (first
      | with_reducible exact ⟨x0, x1⟩
      | with_reducible exact HSd.out
      | with_reducible exact ⟨(kb.cell (p := ⟨w.heap.size, 0, none⟩) hX5).trans x0, (kb.cell (p := ⟨w.heap.size, 1, none⟩) hX5).trans x1⟩
      | with_reducible exact ⟨cell_set3 (cell_set2 ((kb.cell (p := ⟨w.heap.size, 0, none⟩) hX5).trans x0) hXR) hXA, cell_set3 (cell_set2 ((kb.cell (p := ⟨w.heap.size, 1, none⟩) hX5).trans x1) hXR) hXA⟩
      | with_reducible exact ⟨cell_set2 ((kb.cell (p := ⟨w.heap.size, 0, none⟩) hX5).trans x0) hXR, cell_set2 ((kb.cell (p := ⟨w.heap.size, 1, none⟩) hX5).trans x1) hXR⟩)
    (first
      | (
        go_at_call 67
        refine (no_any tFull _).mono ?_
        rintro e w6 ⟨rfl, hy⟩
        have kb : Below W5.heap.size W5 w6 := by first | exact hy | exact bel_addN kb hy kb.size | exact bel_add kb hy kb.size
        have R6 := HR5.out.below kb hRw5
        have A6 := HA5.out.below kb hAw5
        have r0 := R6.cell (j := 0) (by simp)
        have r1 := R6.cell (j := 1) (by simp)
        have b0 := A6.cell (j := 0) (by simp)
        have b1 := A6.cell (j := 1) (by simp)
        have b2 := A6.cell (j := 2) (by simp)
        have g0 := R6.frozen 0
        have g1 := R6.frozen 1
        have k0 := A6.frozen 0
        have k1 := A6.frozen 1
        have k2 := A6.frozen 2
        simp only [List.getElem_cons_zero, List.getElem_cons_succ] at r0 r1 b0 b1 b2
        unfold ansV))
  all_goals go_wp2
  all_goals refine bodyPost_ret (v := .tuple #[.agg #[(.slice D W.rows.length d), (.slice (some ⟨S, 0, none⟩) W.ss.length cap)], .agg #[.int .i64 4, .string tFull, .int .i64 0]]) (by simp [results, Tryd.results53, go_sem, r0, r1, b0, b1, b2]) rfl ?_
  all_goals exact did_answer HH.out hb (((((bel_add' HB5.out kb HB5.out.size).setCell (by show _ ≤ w.heap.size + 1 + 1; omega) _).setCell (by show _ ≤ w.heap.size + 1 + 1; omega) _).setCell (by show _ ≤ w.heap.size + 1 + 1 + 1; omega) _).setCell (by show _ ≤ w.heap.size + 1 + 1 + 1; omega) _ |>.setCell (by show _ ≤ w.heap.size + 1 + 1 + 1; omega) _) (no' tFull)
end Go.Proofs.YtpbaobmegomfpabDoor

/-
  The reference's did: Set and Prep.
-/
namespace Go.Proofs.YtpbaobmegomfpabDoor
open Go.RowKit
set_option linter.unusedVariables false
set_option linter.unusedSimpArgs false
set_option maxRecDepth 100000

theorem plus_sizes {l : PL} {key val : ByteArray} {n : Nat} (h : Sz60 l) (hk : key.size ≤ 8) (hv : val.size ≤ 60) : (plusL l key val).length * 32 ≤ 140737488351232 ∧ ∀ p ∈ plusL l key val, p.1.size ≤ 140737488351232 ∧ p.2.size ≤ 140737488351232 := by
  refine ⟨by have := plusL_len l key val; have := h.1; omega, fun p hp => ?_⟩
  rcases plusL_mem hp with rfl | hp
  · exact ⟨by show key.size ≤ _; omega, by show val.size ≤ _; omega⟩
  · have := h.2 p hp; omega

set_option maxHeartbeats 4000000 in
theorem did_set_is (base S cap : Nat) (r : Value) (W : Wd) (i : Nat) (key val : ByteArray) (w : World) (h : RefW w base S cap r W) (hw : WorldOk W) (hb : base ≤ w.heap.size) (hi : i < W.ss.length) (hkz : key.size ≤ 8) (hvz : val.size ≤ 60) (hst : W.ss[i].st ≠ 2) (v : ByteArray) (hf : atL W.ss[i].set key = some v) :
    Calls Tryd.prog 53 #[.agg #[r, slc S W.ss.length cap], .int .i64 i, .agg #[.int .i64 9, .string key, .string val]] w (DidPost w base S cap W.ss.length (W.put i { W.ss[i] with set := plusL W.ss[i].set key val }, ok')) := by
  obtain ⟨v1, v2, v3, v4, hs⟩ := h.ses i hi
  obtain ⟨D, d, rfl, hd⟩ := h.rows.form
  obtain ⟨A1, n1, rfl, _⟩ := hs.core.l1.form
  obtain ⟨A2, n2, rfl, _⟩ := hs.core.l2.form
  obtain ⟨A3, n3, rfl, _⟩ := hs.core.l3.form
  obtain ⟨A4, n4, rfl, _⟩ := hs.core.l4.form
  have H0 := Lib.hid (didAt0 w (.slice D W.rows.length d) (.slice (some ⟨S, 0, none⟩) W.ss.length cap) 9 key val W.ss[i].st (.slice A1 W.ss[i].set.length n1) (.slice A2 W.ss[i].prep.length n2) (.slice A3 W.ss[i].sav.length n3) (.slice A4 W.ss[i].wr.length n4))
  have hSw := h.blk.lt
  have bel0 := (doAt0 w (.slice D W.rows.length d) (.slice (some ⟨S, 0, none⟩) W.ss.length cap) 9 key val).bel
  have c0 := (bel0.cell (p := ⟨S, i * 5, none⟩) hSw).trans hs.core.c0
  have c1 := (bel0.cell (p := ⟨S, i * 5 + 1, none⟩) hSw).trans hs.core.c1
  have c2 := (bel0.cell (p := ⟨S, i * 5 + 2, none⟩) hSw).trans hs.core.c2
  have c3 := (bel0.cell (p := ⟨S, i * 5 + 3, none⟩) hSw).trans hs.core.c3
  have c4 := (bel0.cell (p := ⟨S, i * 5 + 4, none⟩) hSw).trans hs.core.c4
  unfold doW0 at c0 c1 c2 c3 c4
  clear bel0
  have hii : (i : Int) < (W.ss.length : Int) := by omega
  have HH := Lib.hid h
  have HS := Lib.hid hs
  have HW := Lib.hid hw
  have t0 : (W.ss[i].st == 2) = false := beq_eq_false_iff_ne.2 hst
  have HF := Lib.hid hf
  clear h hs hw hst hf
  unfold slc
  go_enter Tryd.func53, Tryd.ntmps53
  go_wp2_with fail
  have L1 := Lib.hid (HS.out.core.l1.step H0.out.bel)
  unfold didW0 doW0 at L1
  refine (at_any _ W.ss[i].set key _ _ L1.out).mono ?_
  rw [HF.out, atV_some]
  rintro e w5 ⟨rfl, rfl⟩
  clear L1
  have HA : Hid (DidAt w (didW0 w (.slice D W.rows.length d) (.slice (some ⟨S, 0, none⟩) W.ss.length cap) 9 key val W.ss[i].st (.slice A1 W.ss[i].set.length n1) (.slice A2 W.ss[i].prep.length n2) (.slice A3 W.ss[i].sav.length n3) (.slice A4 W.ss[i].wr.length n4)) (.slice D W.rows.length d) (.slice (some ⟨S, 0, none⟩) W.ss.length cap) 9 key val W.ss[i].st (.slice A1 W.ss[i].set.length n1) (.slice A2 W.ss[i].prep.length n2) (.slice A3 W.ss[i].sav.length n3) (.slice A4 W.ss[i].wr.length n4)) := H0
  unfold didW0 doW0 at HA
  clear H0 c0 c1 c2 c3 c4
  generalize ((((((w.alloc (.cells #[.slice D W.rows.length d, .slice (some ⟨S, 0, none⟩) W.ss.length cap] 25)).alloc (.cells #[.int .i64 9, .string key, .string val] 27)).alloc (.cells #[.slice none 0 0, .slice none 0 0] 25)).alloc (.cells #[.int .i64 0, .string ⟨#[]⟩, .int .i64 0] 30)).alloc (.cells #[.int .i64 W.ss[i].st, .slice A1 W.ss[i].set.length n1, .slice A2 W.ss[i].prep.length n2, .slice A3 W.ss[i].sav.length n3, .slice A4 W.ss[i].wr.length n4] 46)).alloc (.cells #[.int .i64 1, .string ⟨#[]⟩, .int .i64 0] 30)) = W5 at *
  have y1 := HA.out.Y.cell (j := 1) (by simp)
  have y2 := HA.out.Y.cell (j := 2) (by simp)
  have z0 := HA.out.Z.cell (j := 0) (by simp)
  have z1 := HA.out.Z.cell (j := 1) (by simp)
  have z2 := HA.out.Z.cell (j := 2) (by simp)
  have z3 := HA.out.Z.cell (j := 3) (by simp)
  have z4 := HA.out.Z.cell (j := 4) (by simp)
  have x0 := HA.out.X.cell (j := 0) (by simp)
  simp only [List.getElem_cons_zero, List.getElem_cons_succ] at y1 y2 z0 z1 z2 z3 z4 x0
  go_wp2_with fail
  refine (plus_any _ W.ss[i].set key val _ (HS.out.core.l1.step HA.out.bel)).mono ?_
  rintro e w6 ⟨v6, rfl, ho, hy⟩
  obtain ⟨A6, c6, rfl⟩ := own_form ho
  have h6 := HA.out.below hy
  clear y1 y2 z0 z1 z2 z3 z4 x0
  have x0 := h6.X.cell (j := 0) (by simp)
  have x1 := h6.X.cell (j := 1) (by simp)
  have xf0 := h6.X.frozen 0
  have xf1 := h6.X.frozen 1
  have z0 := h6.Z.cell (j := 0) (by simp)
  have z1 := h6.Z.cell (j := 1) (by simp)
  have z2 := h6.Z.cell (j := 2) (by simp)
  have z3 := h6.Z.cell (j := 3) (by simp)
  have z4 := h6.Z.cell (j := 4) (by simp)
  have zf0 := h6.Z.frozen 0
  have zf1 := h6.Z.frozen 1
  have zf2 := h6.Z.frozen 2
  have zf3 := h6.Z.frozen 3
  have zf4 := h6.Z.frozen 4
  have o0 := h6.O.cell (j := 0) (by simp)
  have o1 := h6.O.cell (j := 1) (by simp)
  have o2 := h6.O.cell (j := 2) (by simp)
  have r0 := h6.R.cell (j := 0) (by simp)
  have r1 := h6.R.cell (j := 1) (by simp)
  have rf0 := h6.R.frozen 0
  have rf1 := h6.R.frozen 1
  have a0 := h6.A.cell (j := 0) (by simp)
  have a1 := h6.A.cell (j := 1) (by simp)
  have a2 := h6.A.cell (j := 2) (by simp)
  have af0 := h6.A.frozen 0
  have af1 := h6.A.frozen 1
  have af2 := h6.A.frozen 2
  simp only [List.getElem_cons_zero, List.getElem_cons_succ] at x0 x1 z0 z1 z2 z3 z4 o0 o1 o2 r0 r1 a0 a1 a2
  have hS6 := HH.out.blk.below h6.bel hSw
  obtain ⟨y0, d0⟩ := hS6.any (j := i * 5) (by have := HH.out.len; omega)
  have df0 := hS6.frozen (i * 5)
  obtain ⟨y1, d1⟩ := hS6.any (j := i * 5 + 1) (by have := HH.out.len; omega)
  have df1 := hS6.frozen (i * 5 + 1)
  obtain ⟨y2, d2⟩ := hS6.any (j := i * 5 + 2) (by have := HH.out.len; omega)
  have df2 := hS6.frozen (i * 5 + 2)
  obtain ⟨y3, d3⟩ := hS6.any (j := i * 5 + 3) (by have := HH.out.len; omega)
  have df3 := hS6.frozen (i * 5 + 3)
  obtain ⟨y4, d4⟩ := hS6.any (j := i * 5 + 4) (by have := HH.out.len; omega)
  have df4 := hS6.frozen (i * 5 + 4)
  have hw6 := h6.size
  have hSz : S < w6.heap.size := Nat.lt_of_lt_of_le hSw (h6.bel).size
  have HO := Lib.hid ho
  have H6 := Lib.hid h6
  clear ho h6 hy hS6
  go_wp2
  have H7 := Lib.hid (w7_of (cap := cap) (wz := (w6.setCell ⟨w.heap.size + 1 + 1 + 1 + 1, 1, none⟩ (.slice A6 (plusL W.ss[i].set key val).length c6))) (i * 5) (.int .i64 W.ss[i].st) (.slice A6 (plusL W.ss[i].set key val).length c6) (.slice A2 W.ss[i].prep.length n2) (.slice A3 W.ss[i].sav.length n3) (.slice A4 W.ss[i].wr.length n4) H6.out hSw (rv := (.slice D W.rows.length d)) (by exact (H6.out.X.other (p := ⟨w.heap.size + 1 + 1 + 1 + 1, 1, none⟩) (by show w.heap.size + 1 + 1 + 1 + 1 ≠ w.heap.size; omega) (.slice A6 (plusL W.ss[i].set key val).length c6))) (fun b h1 h2 => (zset_other b h2)) (by simp [World.setCell]) ⟨rfl, rfl, rfl⟩)
  unfold set5 at H7
  clear x0 x1 xf0 xf1 z0 z1 z2 z3 z4 o0 o1 o2 r0 r1 a0 a1 a2 zf0 zf1 zf2 zf3 zf4 rf0 rf1 af0 af1 af2 d0 d1 d2 d3 d4 df0 df1 df2 df3 df4
  generalize ((((((w6.setCell ⟨w.heap.size + 1 + 1 + 1 + 1, 1, none⟩ (.slice A6 (plusL W.ss[i].set key val).length c6)).setCell ⟨S, i * 5, none⟩ (.int .i64 W.ss[i].st)).setCell ⟨S, i * 5 + 1, none⟩ (.slice A6 (plusL W.ss[i].set key val).length c6)).setCell ⟨S, i * 5 + 2, none⟩ (.slice A2 W.ss[i].prep.length n2)).setCell ⟨S, i * 5 + 3, none⟩ (.slice A3 W.ss[i].sav.length n3)).setCell ⟨S, i * 5 + 4, none⟩ (.slice A4 W.ss[i].wr.length n4)) = W7 at *
  have x0 := H7.out.X.cell (j := 0) (by simp)
  have x1 := H7.out.X.cell (j := 1) (by simp)
  have o0 := H7.out.O.cell (j := 0) (by simp)
  have o1 := H7.out.O.cell (j := 1) (by simp)
  have o2 := H7.out.O.cell (j := 2) (by simp)
  have r0 := H7.out.R.cell (j := 0) (by simp)
  have r1 := H7.out.R.cell (j := 1) (by simp)
  have b0 := H7.out.A.cell (j := 0) (by simp)
  have b1 := H7.out.A.cell (j := 1) (by simp)
  have b2 := H7.out.A.cell (j := 2) (by simp)
  have g0 := H7.out.R.frozen 0
  have g1 := H7.out.R.frozen 1
  have k0 := H7.out.A.frozen 0
  have k1 := H7.out.A.frozen 1
  have k2 := H7.out.A.frozen 2
  simp only [List.getElem_cons_zero, List.getElem_cons_succ] at x0 x1 o0 o1 o2 r0 r1 b0 b1 b2
  have hXR : w.heap.size ≠ w.heap.size + 1 + 1 := by omega
  have hXA : w.heap.size ≠ w.heap.size + 1 + 1 + 1 := by omega
  have hOR : w.heap.size + 1 + 1 + 1 + 1 + 1 ≠ w.heap.size + 1 + 1 := by omega
  have hOA : w.heap.size + 1 + 1 + 1 + 1 + 1 ≠ w.heap.size + 1 + 1 + 1 := by omega
  have HSd := Lib.hid (show W7.drew.cell? ⟨w.heap.size, 0, none⟩ = some (.slice D W.rows.length d) ∧ W7.drew.cell? ⟨w.heap.size, 1, none⟩ = some (.slice (some ⟨S, 0, none⟩) W.ss.length cap) ∧ W7.drew.cell? ⟨w.heap.size + 1 + 1 + 1 + 1 + 1, 0, none⟩ = some (.int .i64 1) ∧ W7.drew.cell? ⟨w.heap.size + 1 + 1 + 1 + 1 + 1, 1, none⟩ = some (.string ⟨#[]⟩) ∧ W7.drew.cell? ⟨w.heap.size + 1 + 1 + 1 + 1 + 1, 2, none⟩ = some (.int .i64 0) from ⟨x0, x1, o0, o1, o2⟩)
  go_region_held3 (fun wx => wx.cell? ⟨w.heap.size, 0, none⟩ = some (.slice D W.rows.length d) ∧ wx.cell? ⟨w.heap.size, 1, none⟩ = some (.slice (some ⟨S, 0, none⟩) W.ss.length cap) ∧ wx.cell? ⟨w.heap.size + 1 + 1 + 1 + 1 + 1, 0, none⟩ = some (.int .i64 1) ∧ wx.cell? ⟨w.heap.size + 1 + 1 + 1 + 1 + 1, 1, none⟩ = some (.string ⟨#[]⟩) ∧ wx.cell? ⟨w.heap.size + 1 + 1 + 1 + 1 + 1, 2, none⟩ = some (.int .i64 0))
    (first
      | with_reducible exact ⟨x0, x1, o0, o1, o2⟩
      | with_reducible exact HSd.out
      | with_reducible exact ⟨cell_set3 (cell_set2 x0 hXR) hXA, cell_set3 (cell_set2 x1 hXR) hXA, cell_set3 (cell_set2 o0 hOR) hOA, cell_set3 (cell_set2 o1 hOR) hOA, cell_set3 (cell_set2 o2 hOR) hOA⟩
      | with_reducible exact ⟨cell_drew (cell_set3 (cell_set2 x0 hXR) hXA), cell_drew (cell_set3 (cell_set2 x1 hXR) hXA), cell_drew (cell_set3 (cell_set2 o0 hOR) hOA), cell_drew (cell_set3 (cell_set2 o1 hOR) hOA), cell_drew (cell_set3 (cell_set2 o2 hOR) hOA)⟩
      | with_reducible exact ⟨cell_drew (cell_set2 x0 hXR), cell_drew (cell_set2 x1 hXR), cell_drew (cell_set2 o0 hOR), cell_drew (cell_set2 o1 hOR), cell_drew (cell_set2 o2 hOR)⟩
      | with_reducible exact ⟨cell_set2 x0 hXR, cell_set2 x1 hXR, cell_set2 o0 hOR, cell_set2 o1 hOR, cell_set2 o2 hOR⟩)
    (fail)
  all_goals go_wp2
  all_goals refine bodyPost_ret (v := .tuple #[.agg #[.slice D W.rows.length d, .slice (some ⟨S, 0, none⟩) W.ss.length cap], .agg #[.int .i64 1, .string ⟨#[]⟩, .int .i64 0]]) (by simp [results, Tryd.results53, go_sem, r0, r1, b0, b1, b2]) rfl ?_
  all_goals exact did_fin (s' := { W.ss[i] with set := plusL W.ss[i].set key val }) HH.out hb hi H6.out.bel (HH.out.rows.step H6.out.bel) (own_lst HO.out (plus_sizes (n := 0) ((worldOk_sz HW.out).li i 0 hi (by omega)) hkz hvz).1 (plus_sizes (n := 0) ((worldOk_sz HW.out).li i 0 hi (by omega)) hkz hvz).2) (HS.out.core.l2.step H6.out.bel) (HS.out.core.l3.step H6.out.bel) (HS.out.core.l4.step H6.out.bel) (old_inP HH.out.rows HH.out.rin) (new_inP hSw HA.out.size HO.out) (old_inP HS.out.core.l2 HS.out.p2) (old_inP HS.out.core.l3 HS.out.p3) (old_inP HS.out.core.l4 HS.out.p4) H7.out (.slice D W.rows.length d) (.slice (some ⟨S, 0, none⟩) W.ss.length cap) (.int .i64 1) (.string ⟨#[]⟩) (.int .i64 0) (by rfl) ⟨by rfl, by rfl, by rfl⟩ ok'

set_option maxHeartbeats 4000000 in
theorem did_set_new (base S cap : Nat) (r : Value) (W : Wd) (i : Nat) (key val : ByteArray) (w : World) (h : RefW w base S cap r W) (hw : WorldOk W) (hb : base ≤ w.heap.size) (hi : i < W.ss.length) (hkz : key.size ≤ 8) (hvz : val.size ≤ 60) (hst : W.ss[i].st ≠ 2) (hf : atL W.ss[i].set key = none) (h6 : W.ss[i].set.length < 6) :
    Calls Tryd.prog 53 #[.agg #[r, slc S W.ss.length cap], .int .i64 i, .agg #[.int .i64 9, .string key, .string val]] w (DidPost w base S cap W.ss.length (W.put i { W.ss[i] with set := plusL W.ss[i].set key val }, ok')) := by
  obtain ⟨v1, v2, v3, v4, hs⟩ := h.ses i hi
  obtain ⟨D, d, rfl, hd⟩ := h.rows.form
  obtain ⟨A1, n1, rfl, _⟩ := hs.core.l1.form
  obtain ⟨A2, n2, rfl, _⟩ := hs.core.l2.form
  obtain ⟨A3, n3, rfl, _⟩ := hs.core.l3.form
  obtain ⟨A4, n4, rfl, _⟩ := hs.core.l4.form
  have H0 := Lib.hid (didAt0 w (.slice D W.rows.length d) (.slice (some ⟨S, 0, none⟩) W.ss.length cap) 9 key val W.ss[i].st (.slice A1 W.ss[i].set.length n1) (.slice A2 W.ss[i].prep.length n2) (.slice A3 W.ss[i].sav.length n3) (.slice A4 W.ss[i].wr.length n4))
  have hSw := h.blk.lt
  have bel0 := (doAt0 w (.slice D W.rows.length d) (.slice (some ⟨S, 0, none⟩) W.ss.length cap) 9 key val).bel
  have c0 := (bel0.cell (p := ⟨S, i * 5, none⟩) hSw).trans hs.core.c0
  have c1 := (bel0.cell (p := ⟨S, i * 5 + 1, none⟩) hSw).trans hs.core.c1
  have c2 := (bel0.cell (p := ⟨S, i * 5 + 2, none⟩) hSw).trans hs.core.c2
  have c3 := (bel0.cell (p := ⟨S, i * 5 + 3, none⟩) hSw).trans hs.core.c3
  have c4 := (bel0.cell (p := ⟨S, i * 5 + 4, none⟩) hSw).trans hs.core.c4
  unfold doW0 at c0 c1 c2 c3 c4
  clear bel0
  have hii : (i : Int) < (W.ss.length : Int) := by omega
  have HH := Lib.hid h
  have HS := Lib.hid hs
  have HW := Lib.hid hw
  have t0 : (W.ss[i].st == 2) = false := beq_eq_false_iff_ne.2 hst
  have t1 : decide ((6 : Int) ≤ (W.ss[i].set.length : Int)) = false := decide_eq_false (by omega)
  have HF := Lib.hid hf
  clear h hs hw hst hf
  unfold slc
  go_enter Tryd.func53, Tryd.ntmps53
  go_wp2_with fail
  have L1 := Lib.hid (HS.out.core.l1.step H0.out.bel)
  unfold didW0 doW0 at L1
  refine (at_any _ W.ss[i].set key _ _ L1.out).mono ?_
  rw [HF.out, atV_none]
  rintro e w5 ⟨rfl, rfl⟩
  clear L1
  have HA : Hid (DidAt w (didW0 w (.slice D W.rows.length d) (.slice (some ⟨S, 0, none⟩) W.ss.length cap) 9 key val W.ss[i].st (.slice A1 W.ss[i].set.length n1) (.slice A2 W.ss[i].prep.length n2) (.slice A3 W.ss[i].sav.length n3) (.slice A4 W.ss[i].wr.length n4)) (.slice D W.rows.length d) (.slice (some ⟨S, 0, none⟩) W.ss.length cap) 9 key val W.ss[i].st (.slice A1 W.ss[i].set.length n1) (.slice A2 W.ss[i].prep.length n2) (.slice A3 W.ss[i].sav.length n3) (.slice A4 W.ss[i].wr.length n4)) := H0
  unfold didW0 doW0 at HA
  clear H0 c0 c1 c2 c3 c4
  generalize ((((((w.alloc (.cells #[.slice D W.rows.length d, .slice (some ⟨S, 0, none⟩) W.ss.length cap] 25)).alloc (.cells #[.int .i64 9, .string key, .string val] 27)).alloc (.cells #[.slice none 0 0, .slice none 0 0] 25)).alloc (.cells #[.int .i64 0, .string ⟨#[]⟩, .int .i64 0] 30)).alloc (.cells #[.int .i64 W.ss[i].st, .slice A1 W.ss[i].set.length n1, .slice A2 W.ss[i].prep.length n2, .slice A3 W.ss[i].sav.length n3, .slice A4 W.ss[i].wr.length n4] 46)).alloc (.cells #[.int .i64 1, .string ⟨#[]⟩, .int .i64 0] 30)) = W5 at *
  have y1 := HA.out.Y.cell (j := 1) (by simp)
  have y2 := HA.out.Y.cell (j := 2) (by simp)
  have z0 := HA.out.Z.cell (j := 0) (by simp)
  have z1 := HA.out.Z.cell (j := 1) (by simp)
  have z2 := HA.out.Z.cell (j := 2) (by simp)
  have z3 := HA.out.Z.cell (j := 3) (by simp)
  have z4 := HA.out.Z.cell (j := 4) (by simp)
  have x0 := HA.out.X.cell (j := 0) (by simp)
  simp only [List.getElem_cons_zero, List.getElem_cons_succ] at y1 y2 z0 z1 z2 z3 z4 x0
  go_wp2_with fail
  refine (plus_any _ W.ss[i].set key val _ (HS.out.core.l1.step HA.out.bel)).mono ?_
  rintro e w6 ⟨v6, rfl, ho, hy⟩
  obtain ⟨A6, c6, rfl⟩ := own_form ho
  have h6 := HA.out.below hy
  clear y1 y2 z0 z1 z2 z3 z4 x0
  have x0 := h6.X.cell (j := 0) (by simp)
  have x1 := h6.X.cell (j := 1) (by simp)
  have xf0 := h6.X.frozen 0
  have xf1 := h6.X.frozen 1
  have z0 := h6.Z.cell (j := 0) (by simp)
  have z1 := h6.Z.cell (j := 1) (by simp)
  have z2 := h6.Z.cell (j := 2) (by simp)
  have z3 := h6.Z.cell (j := 3) (by simp)
  have z4 := h6.Z.cell (j := 4) (by simp)
  have zf0 := h6.Z.frozen 0
  have zf1 := h6.Z.frozen 1
  have zf2 := h6.Z.frozen 2
  have zf3 := h6.Z.frozen 3
  have zf4 := h6.Z.frozen 4
  have o0 := h6.O.cell (j := 0) (by simp)
  have o1 := h6.O.cell (j := 1) (by simp)
  have o2 := h6.O.cell (j := 2) (by simp)
  have r0 := h6.R.cell (j := 0) (by simp)
  have r1 := h6.R.cell (j := 1) (by simp)
  have rf0 := h6.R.frozen 0
  have rf1 := h6.R.frozen 1
  have a0 := h6.A.cell (j := 0) (by simp)
  have a1 := h6.A.cell (j := 1) (by simp)
  have a2 := h6.A.cell (j := 2) (by simp)
  have af0 := h6.A.frozen 0
  have af1 := h6.A.frozen 1
  have af2 := h6.A.frozen 2
  simp only [List.getElem_cons_zero, List.getElem_cons_succ] at x0 x1 z0 z1 z2 z3 z4 o0 o1 o2 r0 r1 a0 a1 a2
  have hS6 := HH.out.blk.below h6.bel hSw
  obtain ⟨y0, d0⟩ := hS6.any (j := i * 5) (by have := HH.out.len; omega)
  have df0 := hS6.frozen (i * 5)
  obtain ⟨y1, d1⟩ := hS6.any (j := i * 5 + 1) (by have := HH.out.len; omega)
  have df1 := hS6.frozen (i * 5 + 1)
  obtain ⟨y2, d2⟩ := hS6.any (j := i * 5 + 2) (by have := HH.out.len; omega)
  have df2 := hS6.frozen (i * 5 + 2)
  obtain ⟨y3, d3⟩ := hS6.any (j := i * 5 + 3) (by have := HH.out.len; omega)
  have df3 := hS6.frozen (i * 5 + 3)
  obtain ⟨y4, d4⟩ := hS6.any (j := i * 5 + 4) (by have := HH.out.len; omega)
  have df4 := hS6.frozen (i * 5 + 4)
  have hw6 := h6.size
  have hSz : S < w6.heap.size := Nat.lt_of_lt_of_le hSw (h6.bel).size
  have HO := Lib.hid ho
  have H6 := Lib.hid h6
  clear ho h6 hy hS6
  go_wp2
  have H7 := Lib.hid (w7_of (cap := cap) (wz := (w6.setCell ⟨w.heap.size + 1 + 1 + 1 + 1, 1, none⟩ (.slice A6 (plusL W.ss[i].set key val).length c6))) (i * 5) (.int .i64 W.ss[i].st) (.slice A6 (plusL W.ss[i].set key val).length c6) (.slice A2 W.ss[i].prep.length n2) (.slice A3 W.ss[i].sav.length n3) (.slice A4 W.ss[i].wr.length n4) H6.out hSw (rv := (.slice D W.rows.length d)) (by exact (H6.out.X.other (p := ⟨w.heap.size + 1 + 1 + 1 + 1, 1, none⟩) (by show w.heap.size + 1 + 1 + 1 + 1 ≠ w.heap.size; omega) (.slice A6 (plusL W.ss[i].set key val).length c6))) (fun b h1 h2 => (zset_other b h2)) (by simp [World.setCell]) ⟨rfl, rfl, rfl⟩)
  unfold set5 at H7
  clear x0 x1 xf0 xf1 z0 z1 z2 z3 z4 o0 o1 o2 r0 r1 a0 a1 a2 zf0 zf1 zf2 zf3 zf4 rf0 rf1 af0 af1 af2 d0 d1 d2 d3 d4 df0 df1 df2 df3 df4
  generalize ((((((w6.setCell ⟨w.heap.size + 1 + 1 + 1 + 1, 1, none⟩ (.slice A6 (plusL W.ss[i].set key val).length c6)).setCell ⟨S, i * 5, none⟩ (.int .i64 W.ss[i].st)).setCell ⟨S, i * 5 + 1, none⟩ (.slice A6 (plusL W.ss[i].set key val).length c6)).setCell ⟨S, i * 5 + 2, none⟩ (.slice A2 W.ss[i].prep.length n2)).setCell ⟨S, i * 5 + 3, none⟩ (.slice A3 W.ss[i].sav.length n3)).setCell ⟨S, i * 5 + 4, none⟩ (.slice A4 W.ss[i].wr.length n4)) = W7 at *
  have x0 := H7.out.X.cell (j := 0) (by simp)
  have x1 := H7.out.X.cell (j := 1) (by simp)
  have o0 := H7.out.O.cell (j := 0) (by simp)
  have o1 := H7.out.O.cell (j := 1) (by simp)
  have o2 := H7.out.O.cell (j := 2) (by simp)
  have r0 := H7.out.R.cell (j := 0) (by simp)
  have r1 := H7.out.R.cell (j := 1) (by simp)
  have b0 := H7.out.A.cell (j := 0) (by simp)
  have b1 := H7.out.A.cell (j := 1) (by simp)
  have b2 := H7.out.A.cell (j := 2) (by simp)
  have g0 := H7.out.R.frozen 0
  have g1 := H7.out.R.frozen 1
  have k0 := H7.out.A.frozen 0
  have k1 := H7.out.A.frozen 1
  have k2 := H7.out.A.frozen 2
  simp only [List.getElem_cons_zero, List.getElem_cons_succ] at x0 x1 o0 o1 o2 r0 r1 b0 b1 b2
  have hXR : w.heap.size ≠ w.heap.size + 1 + 1 := by omega
  have hXA : w.heap.size ≠ w.heap.size + 1 + 1 + 1 := by omega
  have hOR : w.heap.size + 1 + 1 + 1 + 1 + 1 ≠ w.heap.size + 1 + 1 := by omega
  have hOA : w.heap.size + 1 + 1 + 1 + 1 + 1 ≠ w.heap.size + 1 + 1 + 1 := by omega
  have HSd := Lib.hid (show W7.drew.cell? ⟨w.heap.size, 0, none⟩ = some (.slice D W.rows.length d) ∧ W7.drew.cell? ⟨w.heap.size, 1, none⟩ = some (.slice (some ⟨S, 0, none⟩) W.ss.length cap) ∧ W7.drew.cell? ⟨w.heap.size + 1 + 1 + 1 + 1 + 1, 0, none⟩ = some (.int .i64 1) ∧ W7.drew.cell? ⟨w.heap.size + 1 + 1 + 1 + 1 + 1, 1, none⟩ = some (.string ⟨#[]⟩) ∧ W7.drew.cell? ⟨w.heap.size + 1 + 1 + 1 + 1 + 1, 2, none⟩ = some (.int .i64 0) from ⟨x0, x1, o0, o1, o2⟩)
  go_region_held3 (fun wx => wx.cell? ⟨w.heap.size, 0, none⟩ = some (.slice D W.rows.length d) ∧ wx.cell? ⟨w.heap.size, 1, none⟩ = some (.slice (some ⟨S, 0, none⟩) W.ss.length cap) ∧ wx.cell? ⟨w.heap.size + 1 + 1 + 1 + 1 + 1, 0, none⟩ = some (.int .i64 1) ∧ wx.cell? ⟨w.heap.size + 1 + 1 + 1 + 1 + 1, 1, none⟩ = some (.string ⟨#[]⟩) ∧ wx.cell? ⟨w.heap.size + 1 + 1 + 1 + 1 + 1, 2, none⟩ = some (.int .i64 0))
    (first
      | with_reducible exact ⟨x0, x1, o0, o1, o2⟩
      | with_reducible exact HSd.out
      | with_reducible exact ⟨cell_set3 (cell_set2 x0 hXR) hXA, cell_set3 (cell_set2 x1 hXR) hXA, cell_set3 (cell_set2 o0 hOR) hOA, cell_set3 (cell_set2 o1 hOR) hOA, cell_set3 (cell_set2 o2 hOR) hOA⟩
      | with_reducible exact ⟨cell_drew (cell_set3 (cell_set2 x0 hXR) hXA), cell_drew (cell_set3 (cell_set2 x1 hXR) hXA), cell_drew (cell_set3 (cell_set2 o0 hOR) hOA), cell_drew (cell_set3 (cell_set2 o1 hOR) hOA), cell_drew (cell_set3 (cell_set2 o2 hOR) hOA)⟩
      | with_reducible exact ⟨cell_drew (cell_set2 x0 hXR), cell_drew (cell_set2 x1 hXR), cell_drew (cell_set2 o0 hOR), cell_drew (cell_set2 o1 hOR), cell_drew (cell_set2 o2 hOR)⟩
      | with_reducible exact ⟨cell_set2 x0 hXR, cell_set2 x1 hXR, cell_set2 o0 hOR, cell_set2 o1 hOR, cell_set2 o2 hOR⟩)
    (fail)
  all_goals go_wp2
  all_goals refine bodyPost_ret (v := .tuple #[.agg #[.slice D W.rows.length d, .slice (some ⟨S, 0, none⟩) W.ss.length cap], .agg #[.int .i64 1, .string ⟨#[]⟩, .int .i64 0]]) (by simp [results, Tryd.results53, go_sem, r0, r1, b0, b1, b2]) rfl ?_
  all_goals exact did_fin (s' := { W.ss[i] with set := plusL W.ss[i].set key val }) HH.out hb hi H6.out.bel (HH.out.rows.step H6.out.bel) (own_lst HO.out (plus_sizes (n := 0) ((worldOk_sz HW.out).li i 0 hi (by omega)) hkz hvz).1 (plus_sizes (n := 0) ((worldOk_sz HW.out).li i 0 hi (by omega)) hkz hvz).2) (HS.out.core.l2.step H6.out.bel) (HS.out.core.l3.step H6.out.bel) (HS.out.core.l4.step H6.out.bel) (old_inP HH.out.rows HH.out.rin) (new_inP hSw HA.out.size HO.out) (old_inP HS.out.core.l2 HS.out.p2) (old_inP HS.out.core.l3 HS.out.p3) (old_inP HS.out.core.l4 HS.out.p4) H7.out (.slice D W.rows.length d) (.slice (some ⟨S, 0, none⟩) W.ss.length cap) (.int .i64 1) (.string ⟨#[]⟩) (.int .i64 0) (by rfl) ⟨by rfl, by rfl, by rfl⟩ ok'

set_option maxHeartbeats 4000000 in
theorem did_prep_is (base S cap : Nat) (r : Value) (W : Wd) (i : Nat) (key val : ByteArray) (w : World) (h : RefW w base S cap r W) (hw : WorldOk W) (hb : base ≤ w.heap.size) (hi : i < W.ss.length) (hkz : key.size ≤ 8) (hvz : val.size ≤ 60) (hst : W.ss[i].st ≠ 2) (v : ByteArray) (hf : atL W.ss[i].prep key = some v) :
    Calls Tryd.prog 53 #[.agg #[r, slc S W.ss.length cap], .int .i64 i, .agg #[.int .i64 11, .string key, .string val]] w (DidPost w base S cap W.ss.length (W.put i { W.ss[i] with prep := plusL W.ss[i].prep key val }, ok')) := by
  obtain ⟨v1, v2, v3, v4, hs⟩ := h.ses i hi
  obtain ⟨D, d, rfl, hd⟩ := h.rows.form
  obtain ⟨A1, n1, rfl, _⟩ := hs.core.l1.form
  obtain ⟨A2, n2, rfl, _⟩ := hs.core.l2.form
  obtain ⟨A3, n3, rfl, _⟩ := hs.core.l3.form
  obtain ⟨A4, n4, rfl, _⟩ := hs.core.l4.form
  have H0 := Lib.hid (didAt0 w (.slice D W.rows.length d) (.slice (some ⟨S, 0, none⟩) W.ss.length cap) 11 key val W.ss[i].st (.slice A1 W.ss[i].set.length n1) (.slice A2 W.ss[i].prep.length n2) (.slice A3 W.ss[i].sav.length n3) (.slice A4 W.ss[i].wr.length n4))
  have hSw := h.blk.lt
  have bel0 := (doAt0 w (.slice D W.rows.length d) (.slice (some ⟨S, 0, none⟩) W.ss.length cap) 11 key val).bel
  have c0 := (bel0.cell (p := ⟨S, i * 5, none⟩) hSw).trans hs.core.c0
  have c1 := (bel0.cell (p := ⟨S, i * 5 + 1, none⟩) hSw).trans hs.core.c1
  have c2 := (bel0.cell (p := ⟨S, i * 5 + 2, none⟩) hSw).trans hs.core.c2
  have c3 := (bel0.cell (p := ⟨S, i * 5 + 3, none⟩) hSw).trans hs.core.c3
  have c4 := (bel0.cell (p := ⟨S, i * 5 + 4, none⟩) hSw).trans hs.core.c4
  unfold doW0 at c0 c1 c2 c3 c4
  clear bel0
  have hii : (i : Int) < (W.ss.length : Int) := by omega
  have HH := Lib.hid h
  have HS := Lib.hid hs
  have HW := Lib.hid hw
  have t0 : (W.ss[i].st == 2) = false := beq_eq_false_iff_ne.2 hst
  have HF := Lib.hid hf
  clear h hs hw hst hf
  unfold slc
  go_enter Tryd.func53, Tryd.ntmps53
  go_wp2_with fail
  have L1 := Lib.hid (HS.out.core.l2.step H0.out.bel)
  unfold didW0 doW0 at L1
  refine (at_any _ W.ss[i].prep key _ _ L1.out).mono ?_
  rw [HF.out, atV_some]
  rintro e w5 ⟨rfl, rfl⟩
  clear L1
  have HA : Hid (DidAt w (didW0 w (.slice D W.rows.length d) (.slice (some ⟨S, 0, none⟩) W.ss.length cap) 11 key val W.ss[i].st (.slice A1 W.ss[i].set.length n1) (.slice A2 W.ss[i].prep.length n2) (.slice A3 W.ss[i].sav.length n3) (.slice A4 W.ss[i].wr.length n4)) (.slice D W.rows.length d) (.slice (some ⟨S, 0, none⟩) W.ss.length cap) 11 key val W.ss[i].st (.slice A1 W.ss[i].set.length n1) (.slice A2 W.ss[i].prep.length n2) (.slice A3 W.ss[i].sav.length n3) (.slice A4 W.ss[i].wr.length n4)) := H0
  unfold didW0 doW0 at HA
  clear H0 c0 c1 c2 c3 c4
  generalize ((((((w.alloc (.cells #[.slice D W.rows.length d, .slice (some ⟨S, 0, none⟩) W.ss.length cap] 25)).alloc (.cells #[.int .i64 11, .string key, .string val] 27)).alloc (.cells #[.slice none 0 0, .slice none 0 0] 25)).alloc (.cells #[.int .i64 0, .string ⟨#[]⟩, .int .i64 0] 30)).alloc (.cells #[.int .i64 W.ss[i].st, .slice A1 W.ss[i].set.length n1, .slice A2 W.ss[i].prep.length n2, .slice A3 W.ss[i].sav.length n3, .slice A4 W.ss[i].wr.length n4] 46)).alloc (.cells #[.int .i64 1, .string ⟨#[]⟩, .int .i64 0] 30)) = W5 at *
  have y1 := HA.out.Y.cell (j := 1) (by simp)
  have y2 := HA.out.Y.cell (j := 2) (by simp)
  have z0 := HA.out.Z.cell (j := 0) (by simp)
  have z1 := HA.out.Z.cell (j := 1) (by simp)
  have z2 := HA.out.Z.cell (j := 2) (by simp)
  have z3 := HA.out.Z.cell (j := 3) (by simp)
  have z4 := HA.out.Z.cell (j := 4) (by simp)
  have x0 := HA.out.X.cell (j := 0) (by simp)
  simp only [List.getElem_cons_zero, List.getElem_cons_succ] at y1 y2 z0 z1 z2 z3 z4 x0
  go_wp2_with fail
  refine (plus_any _ W.ss[i].prep key val _ (HS.out.core.l2.step HA.out.bel)).mono ?_
  rintro e w6 ⟨v6, rfl, ho, hy⟩
  obtain ⟨A6, c6, rfl⟩ := own_form ho
  have h6 := HA.out.below hy
  clear y1 y2 z0 z1 z2 z3 z4 x0
  have x0 := h6.X.cell (j := 0) (by simp)
  have x1 := h6.X.cell (j := 1) (by simp)
  have xf0 := h6.X.frozen 0
  have xf1 := h6.X.frozen 1
  have z0 := h6.Z.cell (j := 0) (by simp)
  have z1 := h6.Z.cell (j := 1) (by simp)
  have z2 := h6.Z.cell (j := 2) (by simp)
  have z3 := h6.Z.cell (j := 3) (by simp)
  have z4 := h6.Z.cell (j := 4) (by simp)
  have zf0 := h6.Z.frozen 0
  have zf1 := h6.Z.frozen 1
  have zf2 := h6.Z.frozen 2
  have zf3 := h6.Z.frozen 3
  have zf4 := h6.Z.frozen 4
  have o0 := h6.O.cell (j := 0) (by simp)
  have o1 := h6.O.cell (j := 1) (by simp)
  have o2 := h6.O.cell (j := 2) (by simp)
  have r0 := h6.R.cell (j := 0) (by simp)
  have r1 := h6.R.cell (j := 1) (by simp)
  have rf0 := h6.R.frozen 0
  have rf1 := h6.R.frozen 1
  have a0 := h6.A.cell (j := 0) (by simp)
  have a1 := h6.A.cell (j := 1) (by simp)
  have a2 := h6.A.cell (j := 2) (by simp)
  have af0 := h6.A.frozen 0
  have af1 := h6.A.frozen 1
  have af2 := h6.A.frozen 2
  simp only [List.getElem_cons_zero, List.getElem_cons_succ] at x0 x1 z0 z1 z2 z3 z4 o0 o1 o2 r0 r1 a0 a1 a2
  have hS6 := HH.out.blk.below h6.bel hSw
  obtain ⟨y0, d0⟩ := hS6.any (j := i * 5) (by have := HH.out.len; omega)
  have df0 := hS6.frozen (i * 5)
  obtain ⟨y1, d1⟩ := hS6.any (j := i * 5 + 1) (by have := HH.out.len; omega)
  have df1 := hS6.frozen (i * 5 + 1)
  obtain ⟨y2, d2⟩ := hS6.any (j := i * 5 + 2) (by have := HH.out.len; omega)
  have df2 := hS6.frozen (i * 5 + 2)
  obtain ⟨y3, d3⟩ := hS6.any (j := i * 5 + 3) (by have := HH.out.len; omega)
  have df3 := hS6.frozen (i * 5 + 3)
  obtain ⟨y4, d4⟩ := hS6.any (j := i * 5 + 4) (by have := HH.out.len; omega)
  have df4 := hS6.frozen (i * 5 + 4)
  have hw6 := h6.size
  have hSz : S < w6.heap.size := Nat.lt_of_lt_of_le hSw (h6.bel).size
  have HO := Lib.hid ho
  have H6 := Lib.hid h6
  clear ho h6 hy hS6
  go_wp2
  have H7 := Lib.hid (w7_of (cap := cap) (wz := (w6.setCell ⟨w.heap.size + 1 + 1 + 1 + 1, 2, none⟩ (.slice A6 (plusL W.ss[i].prep key val).length c6))) (i * 5) (.int .i64 W.ss[i].st) (.slice A1 W.ss[i].set.length n1) (.slice A6 (plusL W.ss[i].prep key val).length c6) (.slice A3 W.ss[i].sav.length n3) (.slice A4 W.ss[i].wr.length n4) H6.out hSw (rv := (.slice D W.rows.length d)) (by exact (H6.out.X.other (p := ⟨w.heap.size + 1 + 1 + 1 + 1, 2, none⟩) (by show w.heap.size + 1 + 1 + 1 + 1 ≠ w.heap.size; omega) (.slice A6 (plusL W.ss[i].prep key val).length c6))) (fun b h1 h2 => (zset_other b h2)) (by simp [World.setCell]) ⟨rfl, rfl, rfl⟩)
  unfold set5 at H7
  clear x0 x1 xf0 xf1 z0 z1 z2 z3 z4 o0 o1 o2 r0 r1 a0 a1 a2 zf0 zf1 zf2 zf3 zf4 rf0 rf1 af0 af1 af2 d0 d1 d2 d3 d4 df0 df1 df2 df3 df4
  generalize ((((((w6.setCell ⟨w.heap.size + 1 + 1 + 1 + 1, 2, none⟩ (.slice A6 (plusL W.ss[i].prep key val).length c6)).setCell ⟨S, i * 5, none⟩ (.int .i64 W.ss[i].st)).setCell ⟨S, i * 5 + 1, none⟩ (.slice A1 W.ss[i].set.length n1)).setCell ⟨S, i * 5 + 2, none⟩ (.slice A6 (plusL W.ss[i].prep key val).length c6)).setCell ⟨S, i * 5 + 3, none⟩ (.slice A3 W.ss[i].sav.length n3)).setCell ⟨S, i * 5 + 4, none⟩ (.slice A4 W.ss[i].wr.length n4)) = W7 at *
  have x0 := H7.out.X.cell (j := 0) (by simp)
  have x1 := H7.out.X.cell (j := 1) (by simp)
  have o0 := H7.out.O.cell (j := 0) (by simp)
  have o1 := H7.out.O.cell (j := 1) (by simp)
  have o2 := H7.out.O.cell (j := 2) (by simp)
  have r0 := H7.out.R.cell (j := 0) (by simp)
  have r1 := H7.out.R.cell (j := 1) (by simp)
  have b0 := H7.out.A.cell (j := 0) (by simp)
  have b1 := H7.out.A.cell (j := 1) (by simp)
  have b2 := H7.out.A.cell (j := 2) (by simp)
  have g0 := H7.out.R.frozen 0
  have g1 := H7.out.R.frozen 1
  have k0 := H7.out.A.frozen 0
  have k1 := H7.out.A.frozen 1
  have k2 := H7.out.A.frozen 2
  simp only [List.getElem_cons_zero, List.getElem_cons_succ] at x0 x1 o0 o1 o2 r0 r1 b0 b1 b2
  have hXR : w.heap.size ≠ w.heap.size + 1 + 1 := by omega
  have hXA : w.heap.size ≠ w.heap.size + 1 + 1 + 1 := by omega
  have hOR : w.heap.size + 1 + 1 + 1 + 1 + 1 ≠ w.heap.size + 1 + 1 := by omega
  have hOA : w.heap.size + 1 + 1 + 1 + 1 + 1 ≠ w.heap.size + 1 + 1 + 1 := by omega
  have HSd := Lib.hid (show W7.drew.cell? ⟨w.heap.size, 0, none⟩ = some (.slice D W.rows.length d) ∧ W7.drew.cell? ⟨w.heap.size, 1, none⟩ = some (.slice (some ⟨S, 0, none⟩) W.ss.length cap) ∧ W7.drew.cell? ⟨w.heap.size + 1 + 1 + 1 + 1 + 1, 0, none⟩ = some (.int .i64 1) ∧ W7.drew.cell? ⟨w.heap.size + 1 + 1 + 1 + 1 + 1, 1, none⟩ = some (.string ⟨#[]⟩) ∧ W7.drew.cell? ⟨w.heap.size + 1 + 1 + 1 + 1 + 1, 2, none⟩ = some (.int .i64 0) from ⟨x0, x1, o0, o1, o2⟩)
  go_region_held3 (fun wx => wx.cell? ⟨w.heap.size, 0, none⟩ = some (.slice D W.rows.length d) ∧ wx.cell? ⟨w.heap.size, 1, none⟩ = some (.slice (some ⟨S, 0, none⟩) W.ss.length cap) ∧ wx.cell? ⟨w.heap.size + 1 + 1 + 1 + 1 + 1, 0, none⟩ = some (.int .i64 1) ∧ wx.cell? ⟨w.heap.size + 1 + 1 + 1 + 1 + 1, 1, none⟩ = some (.string ⟨#[]⟩) ∧ wx.cell? ⟨w.heap.size + 1 + 1 + 1 + 1 + 1, 2, none⟩ = some (.int .i64 0))
    (first
      | with_reducible exact ⟨x0, x1, o0, o1, o2⟩
      | with_reducible exact HSd.out
      | with_reducible exact ⟨cell_set3 (cell_set2 x0 hXR) hXA, cell_set3 (cell_set2 x1 hXR) hXA, cell_set3 (cell_set2 o0 hOR) hOA, cell_set3 (cell_set2 o1 hOR) hOA, cell_set3 (cell_set2 o2 hOR) hOA⟩
      | with_reducible exact ⟨cell_drew (cell_set3 (cell_set2 x0 hXR) hXA), cell_drew (cell_set3 (cell_set2 x1 hXR) hXA), cell_drew (cell_set3 (cell_set2 o0 hOR) hOA), cell_drew (cell_set3 (cell_set2 o1 hOR) hOA), cell_drew (cell_set3 (cell_set2 o2 hOR) hOA)⟩
      | with_reducible exact ⟨cell_drew (cell_set2 x0 hXR), cell_drew (cell_set2 x1 hXR), cell_drew (cell_set2 o0 hOR), cell_drew (cell_set2 o1 hOR), cell_drew (cell_set2 o2 hOR)⟩
      | with_reducible exact ⟨cell_set2 x0 hXR, cell_set2 x1 hXR, cell_set2 o0 hOR, cell_set2 o1 hOR, cell_set2 o2 hOR⟩)
    (fail)
  all_goals go_wp2
  all_goals refine bodyPost_ret (v := .tuple #[.agg #[.slice D W.rows.length d, .slice (some ⟨S, 0, none⟩) W.ss.length cap], .agg #[.int .i64 1, .string ⟨#[]⟩, .int .i64 0]]) (by simp [results, Tryd.results53, go_sem, r0, r1, b0, b1, b2]) rfl ?_
  all_goals exact did_fin (s' := { W.ss[i] with prep := plusL W.ss[i].prep key val }) HH.out hb hi H6.out.bel (HH.out.rows.step H6.out.bel) (HS.out.core.l1.step H6.out.bel) (own_lst HO.out (plus_sizes (n := 0) ((worldOk_sz HW.out).li i 1 hi (by omega)) hkz hvz).1 (plus_sizes (n := 0) ((worldOk_sz HW.out).li i 1 hi (by omega)) hkz hvz).2) (HS.out.core.l3.step H6.out.bel) (HS.out.core.l4.step H6.out.bel) (old_inP HH.out.rows HH.out.rin) (old_inP HS.out.core.l1 HS.out.p1) (new_inP hSw HA.out.size HO.out) (old_inP HS.out.core.l3 HS.out.p3) (old_inP HS.out.core.l4 HS.out.p4) H7.out (.slice D W.rows.length d) (.slice (some ⟨S, 0, none⟩) W.ss.length cap) (.int .i64 1) (.string ⟨#[]⟩) (.int .i64 0) (by rfl) ⟨by rfl, by rfl, by rfl⟩ ok'

set_option maxHeartbeats 4000000 in
theorem did_prep_new (base S cap : Nat) (r : Value) (W : Wd) (i : Nat) (key val : ByteArray) (w : World) (h : RefW w base S cap r W) (hw : WorldOk W) (hb : base ≤ w.heap.size) (hi : i < W.ss.length) (hkz : key.size ≤ 8) (hvz : val.size ≤ 60) (hst : W.ss[i].st ≠ 2) (hf : atL W.ss[i].prep key = none) (h6 : W.ss[i].prep.length < 6) :
    Calls Tryd.prog 53 #[.agg #[r, slc S W.ss.length cap], .int .i64 i, .agg #[.int .i64 11, .string key, .string val]] w (DidPost w base S cap W.ss.length (W.put i { W.ss[i] with prep := plusL W.ss[i].prep key val }, ok')) := by
  obtain ⟨v1, v2, v3, v4, hs⟩ := h.ses i hi
  obtain ⟨D, d, rfl, hd⟩ := h.rows.form
  obtain ⟨A1, n1, rfl, _⟩ := hs.core.l1.form
  obtain ⟨A2, n2, rfl, _⟩ := hs.core.l2.form
  obtain ⟨A3, n3, rfl, _⟩ := hs.core.l3.form
  obtain ⟨A4, n4, rfl, _⟩ := hs.core.l4.form
  have H0 := Lib.hid (didAt0 w (.slice D W.rows.length d) (.slice (some ⟨S, 0, none⟩) W.ss.length cap) 11 key val W.ss[i].st (.slice A1 W.ss[i].set.length n1) (.slice A2 W.ss[i].prep.length n2) (.slice A3 W.ss[i].sav.length n3) (.slice A4 W.ss[i].wr.length n4))
  have hSw := h.blk.lt
  have bel0 := (doAt0 w (.slice D W.rows.length d) (.slice (some ⟨S, 0, none⟩) W.ss.length cap) 11 key val).bel
  have c0 := (bel0.cell (p := ⟨S, i * 5, none⟩) hSw).trans hs.core.c0
  have c1 := (bel0.cell (p := ⟨S, i * 5 + 1, none⟩) hSw).trans hs.core.c1
  have c2 := (bel0.cell (p := ⟨S, i * 5 + 2, none⟩) hSw).trans hs.core.c2
  have c3 := (bel0.cell (p := ⟨S, i * 5 + 3, none⟩) hSw).trans hs.core.c3
  have c4 := (bel0.cell (p := ⟨S, i * 5 + 4, none⟩) hSw).trans hs.core.c4
  unfold doW0 at c0 c1 c2 c3 c4
  clear bel0
  have hii : (i : Int) < (W.ss.length : Int) := by omega
  have HH := Lib.hid h
  have HS := Lib.hid hs
  have HW := Lib.hid hw
  have t0 : (W.ss[i].st == 2) = false := beq_eq_false_iff_ne.2 hst
  have t1 : decide ((6 : Int) ≤ (W.ss[i].prep.length : Int)) = false := decide_eq_false (by omega)
  have HF := Lib.hid hf
  clear h hs hw hst hf
  unfold slc
  go_enter Tryd.func53, Tryd.ntmps53
  go_wp2_with fail
  have L1 := Lib.hid (HS.out.core.l2.step H0.out.bel)
  unfold didW0 doW0 at L1
  refine (at_any _ W.ss[i].prep key _ _ L1.out).mono ?_
  rw [HF.out, atV_none]
  rintro e w5 ⟨rfl, rfl⟩
  clear L1
  have HA : Hid (DidAt w (didW0 w (.slice D W.rows.length d) (.slice (some ⟨S, 0, none⟩) W.ss.length cap) 11 key val W.ss[i].st (.slice A1 W.ss[i].set.length n1) (.slice A2 W.ss[i].prep.length n2) (.slice A3 W.ss[i].sav.length n3) (.slice A4 W.ss[i].wr.length n4)) (.slice D W.rows.length d) (.slice (some ⟨S, 0, none⟩) W.ss.length cap) 11 key val W.ss[i].st (.slice A1 W.ss[i].set.length n1) (.slice A2 W.ss[i].prep.length n2) (.slice A3 W.ss[i].sav.length n3) (.slice A4 W.ss[i].wr.length n4)) := H0
  unfold didW0 doW0 at HA
  clear H0 c0 c1 c2 c3 c4
  generalize ((((((w.alloc (.cells #[.slice D W.rows.length d, .slice (some ⟨S, 0, none⟩) W.ss.length cap] 25)).alloc (.cells #[.int .i64 11, .string key, .string val] 27)).alloc (.cells #[.slice none 0 0, .slice none 0 0] 25)).alloc (.cells #[.int .i64 0, .string ⟨#[]⟩, .int .i64 0] 30)).alloc (.cells #[.int .i64 W.ss[i].st, .slice A1 W.ss[i].set.length n1, .slice A2 W.ss[i].prep.length n2, .slice A3 W.ss[i].sav.length n3, .slice A4 W.ss[i].wr.length n4] 46)).alloc (.cells #[.int .i64 1, .string ⟨#[]⟩, .int .i64 0] 30)) = W5 at *
  have y1 := HA.out.Y.cell (j := 1) (by simp)
  have y2 := HA.out.Y.cell (j := 2) (by simp)
  have z0 := HA.out.Z.cell (j := 0) (by simp)
  have z1 := HA.out.Z.cell (j := 1) (by simp)
  have z2 := HA.out.Z.cell (j := 2) (by simp)
  have z3 := HA.out.Z.cell (j := 3) (by simp)
  have z4 := HA.out.Z.cell (j := 4) (by simp)
  have x0 := HA.out.X.cell (j := 0) (by simp)
  simp only [List.getElem_cons_zero, List.getElem_cons_succ] at y1 y2 z0 z1 z2 z3 z4 x0
  go_wp2_with fail
  refine (plus_any _ W.ss[i].prep key val _ (HS.out.core.l2.step HA.out.bel)).mono ?_
  rintro e w6 ⟨v6, rfl, ho, hy⟩
  obtain ⟨A6, c6, rfl⟩ := own_form ho
  have h6 := HA.out.below hy
  clear y1 y2 z0 z1 z2 z3 z4 x0
  have x0 := h6.X.cell (j := 0) (by simp)
  have x1 := h6.X.cell (j := 1) (by simp)
  have xf0 := h6.X.frozen 0
  have xf1 := h6.X.frozen 1
  have z0 := h6.Z.cell (j := 0) (by simp)
  have z1 := h6.Z.cell (j := 1) (by simp)
  have z2 := h6.Z.cell (j := 2) (by simp)
  have z3 := h6.Z.cell (j := 3) (by simp)
  have z4 := h6.Z.cell (j := 4) (by simp)
  have zf0 := h6.Z.frozen 0
  have zf1 := h6.Z.frozen 1
  have zf2 := h6.Z.frozen 2
  have zf3 := h6.Z.frozen 3
  have zf4 := h6.Z.frozen 4
  have o0 := h6.O.cell (j := 0) (by simp)
  have o1 := h6.O.cell (j := 1) (by simp)
  have o2 := h6.O.cell (j := 2) (by simp)
  have r0 := h6.R.cell (j := 0) (by simp)
  have r1 := h6.R.cell (j := 1) (by simp)
  have rf0 := h6.R.frozen 0
  have rf1 := h6.R.frozen 1
  have a0 := h6.A.cell (j := 0) (by simp)
  have a1 := h6.A.cell (j := 1) (by simp)
  have a2 := h6.A.cell (j := 2) (by simp)
  have af0 := h6.A.frozen 0
  have af1 := h6.A.frozen 1
  have af2 := h6.A.frozen 2
  simp only [List.getElem_cons_zero, List.getElem_cons_succ] at x0 x1 z0 z1 z2 z3 z4 o0 o1 o2 r0 r1 a0 a1 a2
  have hS6 := HH.out.blk.below h6.bel hSw
  obtain ⟨y0, d0⟩ := hS6.any (j := i * 5) (by have := HH.out.len; omega)
  have df0 := hS6.frozen (i * 5)
  obtain ⟨y1, d1⟩ := hS6.any (j := i * 5 + 1) (by have := HH.out.len; omega)
  have df1 := hS6.frozen (i * 5 + 1)
  obtain ⟨y2, d2⟩ := hS6.any (j := i * 5 + 2) (by have := HH.out.len; omega)
  have df2 := hS6.frozen (i * 5 + 2)
  obtain ⟨y3, d3⟩ := hS6.any (j := i * 5 + 3) (by have := HH.out.len; omega)
  have df3 := hS6.frozen (i * 5 + 3)
  obtain ⟨y4, d4⟩ := hS6.any (j := i * 5 + 4) (by have := HH.out.len; omega)
  have df4 := hS6.frozen (i * 5 + 4)
  have hw6 := h6.size
  have hSz : S < w6.heap.size := Nat.lt_of_lt_of_le hSw (h6.bel).size
  have HO := Lib.hid ho
  have H6 := Lib.hid h6
  clear ho h6 hy hS6
  go_wp2
  have H7 := Lib.hid (w7_of (cap := cap) (wz := (w6.setCell ⟨w.heap.size + 1 + 1 + 1 + 1, 2, none⟩ (.slice A6 (plusL W.ss[i].prep key val).length c6))) (i * 5) (.int .i64 W.ss[i].st) (.slice A1 W.ss[i].set.length n1) (.slice A6 (plusL W.ss[i].prep key val).length c6) (.slice A3 W.ss[i].sav.length n3) (.slice A4 W.ss[i].wr.length n4) H6.out hSw (rv := (.slice D W.rows.length d)) (by exact (H6.out.X.other (p := ⟨w.heap.size + 1 + 1 + 1 + 1, 2, none⟩) (by show w.heap.size + 1 + 1 + 1 + 1 ≠ w.heap.size; omega) (.slice A6 (plusL W.ss[i].prep key val).length c6))) (fun b h1 h2 => (zset_other b h2)) (by simp [World.setCell]) ⟨rfl, rfl, rfl⟩)
  unfold set5 at H7
  clear x0 x1 xf0 xf1 z0 z1 z2 z3 z4 o0 o1 o2 r0 r1 a0 a1 a2 zf0 zf1 zf2 zf3 zf4 rf0 rf1 af0 af1 af2 d0 d1 d2 d3 d4 df0 df1 df2 df3 df4
  generalize ((((((w6.setCell ⟨w.heap.size + 1 + 1 + 1 + 1, 2, none⟩ (.slice A6 (plusL W.ss[i].prep key val).length c6)).setCell ⟨S, i * 5, none⟩ (.int .i64 W.ss[i].st)).setCell ⟨S, i * 5 + 1, none⟩ (.slice A1 W.ss[i].set.length n1)).setCell ⟨S, i * 5 + 2, none⟩ (.slice A6 (plusL W.ss[i].prep key val).length c6)).setCell ⟨S, i * 5 + 3, none⟩ (.slice A3 W.ss[i].sav.length n3)).setCell ⟨S, i * 5 + 4, none⟩ (.slice A4 W.ss[i].wr.length n4)) = W7 at *
  have x0 := H7.out.X.cell (j := 0) (by simp)
  have x1 := H7.out.X.cell (j := 1) (by simp)
  have o0 := H7.out.O.cell (j := 0) (by simp)
  have o1 := H7.out.O.cell (j := 1) (by simp)
  have o2 := H7.out.O.cell (j := 2) (by simp)
  have r0 := H7.out.R.cell (j := 0) (by simp)
  have r1 := H7.out.R.cell (j := 1) (by simp)
  have b0 := H7.out.A.cell (j := 0) (by simp)
  have b1 := H7.out.A.cell (j := 1) (by simp)
  have b2 := H7.out.A.cell (j := 2) (by simp)
  have g0 := H7.out.R.frozen 0
  have g1 := H7.out.R.frozen 1
  have k0 := H7.out.A.frozen 0
  have k1 := H7.out.A.frozen 1
  have k2 := H7.out.A.frozen 2
  simp only [List.getElem_cons_zero, List.getElem_cons_succ] at x0 x1 o0 o1 o2 r0 r1 b0 b1 b2
  have hXR : w.heap.size ≠ w.heap.size + 1 + 1 := by omega
  have hXA : w.heap.size ≠ w.heap.size + 1 + 1 + 1 := by omega
  have hOR : w.heap.size + 1 + 1 + 1 + 1 + 1 ≠ w.heap.size + 1 + 1 := by omega
  have hOA : w.heap.size + 1 + 1 + 1 + 1 + 1 ≠ w.heap.size + 1 + 1 + 1 := by omega
  have HSd := Lib.hid (show W7.drew.cell? ⟨w.heap.size, 0, none⟩ = some (.slice D W.rows.length d) ∧ W7.drew.cell? ⟨w.heap.size, 1, none⟩ = some (.slice (some ⟨S, 0, none⟩) W.ss.length cap) ∧ W7.drew.cell? ⟨w.heap.size + 1 + 1 + 1 + 1 + 1, 0, none⟩ = some (.int .i64 1) ∧ W7.drew.cell? ⟨w.heap.size + 1 + 1 + 1 + 1 + 1, 1, none⟩ = some (.string ⟨#[]⟩) ∧ W7.drew.cell? ⟨w.heap.size + 1 + 1 + 1 + 1 + 1, 2, none⟩ = some (.int .i64 0) from ⟨x0, x1, o0, o1, o2⟩)
  go_region_held3 (fun wx => wx.cell? ⟨w.heap.size, 0, none⟩ = some (.slice D W.rows.length d) ∧ wx.cell? ⟨w.heap.size, 1, none⟩ = some (.slice (some ⟨S, 0, none⟩) W.ss.length cap) ∧ wx.cell? ⟨w.heap.size + 1 + 1 + 1 + 1 + 1, 0, none⟩ = some (.int .i64 1) ∧ wx.cell? ⟨w.heap.size + 1 + 1 + 1 + 1 + 1, 1, none⟩ = some (.string ⟨#[]⟩) ∧ wx.cell? ⟨w.heap.size + 1 + 1 + 1 + 1 + 1, 2, none⟩ = some (.int .i64 0))
    (first
      | with_reducible exact ⟨x0, x1, o0, o1, o2⟩
      | with_reducible exact HSd.out
      | with_reducible exact ⟨cell_set3 (cell_set2 x0 hXR) hXA, cell_set3 (cell_set2 x1 hXR) hXA, cell_set3 (cell_set2 o0 hOR) hOA, cell_set3 (cell_set2 o1 hOR) hOA, cell_set3 (cell_set2 o2 hOR) hOA⟩
      | with_reducible exact ⟨cell_drew (cell_set3 (cell_set2 x0 hXR) hXA), cell_drew (cell_set3 (cell_set2 x1 hXR) hXA), cell_drew (cell_set3 (cell_set2 o0 hOR) hOA), cell_drew (cell_set3 (cell_set2 o1 hOR) hOA), cell_drew (cell_set3 (cell_set2 o2 hOR) hOA)⟩
      | with_reducible exact ⟨cell_drew (cell_set2 x0 hXR), cell_drew (cell_set2 x1 hXR), cell_drew (cell_set2 o0 hOR), cell_drew (cell_set2 o1 hOR), cell_drew (cell_set2 o2 hOR)⟩
      | with_reducible exact ⟨cell_set2 x0 hXR, cell_set2 x1 hXR, cell_set2 o0 hOR, cell_set2 o1 hOR, cell_set2 o2 hOR⟩)
    (fail)
  all_goals go_wp2
  all_goals refine bodyPost_ret (v := .tuple #[.agg #[.slice D W.rows.length d, .slice (some ⟨S, 0, none⟩) W.ss.length cap], .agg #[.int .i64 1, .string ⟨#[]⟩, .int .i64 0]]) (by simp [results, Tryd.results53, go_sem, r0, r1, b0, b1, b2]) rfl ?_
  all_goals exact did_fin (s' := { W.ss[i] with prep := plusL W.ss[i].prep key val }) HH.out hb hi H6.out.bel (HH.out.rows.step H6.out.bel) (HS.out.core.l1.step H6.out.bel) (own_lst HO.out (plus_sizes (n := 0) ((worldOk_sz HW.out).li i 1 hi (by omega)) hkz hvz).1 (plus_sizes (n := 0) ((worldOk_sz HW.out).li i 1 hi (by omega)) hkz hvz).2) (HS.out.core.l3.step H6.out.bel) (HS.out.core.l4.step H6.out.bel) (old_inP HH.out.rows HH.out.rin) (old_inP HS.out.core.l1 HS.out.p1) (new_inP hSw HA.out.size HO.out) (old_inP HS.out.core.l3 HS.out.p3) (old_inP HS.out.core.l4 HS.out.p4) H7.out (.slice D W.rows.length d) (.slice (some ⟨S, 0, none⟩) W.ss.length cap) (.int .i64 1) (.string ⟨#[]⟩) (.int .i64 0) (by rfl) ⟨by rfl, by rfl, by rfl⟩ ok'
end Go.Proofs.YtpbaobmegomfpabDoor

/-
  The reference's did: Put.
-/
namespace Go.Proofs.YtpbaobmegomfpabDoor
open Go.RowKit
set_option linter.unusedVariables false
set_option linter.unusedSimpArgs false
set_option maxRecDepth 100000

theorem all_sizes {W : Wd} (h : WorldOk W) : (allL W).length * 32 ≤ 140737488351232 ∧ ∀ p ∈ allL W, p.1.size ≤ 140737488351232 ∧ p.2.size ≤ 140737488351232 := by
  have key : ∀ (l out : PL), (∀ p ∈ out, p.1.size ≤ 60 ∧ p.2.size ≤ 60) → (∀ p ∈ l, p.1.size ≤ 60) → ∀ p ∈ allF out l, p.1.size ≤ 60 ∧ p.2.size ≤ 60 := by
    intro l
    induction l with
    | nil => intro out h1 _; exact h1
    | cons q l ih =>
      intro out h1 h2
      refine ih (plusL out q.1 ⟨#[]⟩) (fun p hp => ?_) (fun p hp => h2 p (List.mem_cons_of_mem _ hp))
      rcases plusL_mem hp with rfl | hp
      · exact ⟨h2 q List.mem_cons_self, by show 0 ≤ 60; omega⟩
      · exact h1 p hp
  have sz := worldOk_sz h
  refine ⟨by have := h.all; omega, fun p hp => ?_⟩
  have := key (W.ss.flatMap (fun (s : Sess) => s.wr)) W.rows (fun p hp => by have := sz.rows.2 p hp; omega) (fun p hp => by
    obtain ⟨s, hs, hp⟩ := List.mem_flatMap.1 hp
    obtain ⟨k, hk, rfl⟩ := List.getElem_of_mem hs
    have := (sz.li k 3 hk (by omega)).2 p hp
    omega) p hp
  omega

set_option maxHeartbeats 4000000 in
theorem did_put_held (base S cap : Nat) (r : Value) (W : Wd) (i : Nat) (key val : ByteArray) (w : World) (h : RefW w base S cap r W) (hw : WorldOk W) (hb : base ≤ w.heap.size) (hi : i < W.ss.length) (hkz : key.size ≤ 8) (hvz : val.size ≤ 60) (hst : W.ss[i].st ≠ 2) (hh : heldB W.ss i key = true) :
    Calls Tryd.prog 53 #[.agg #[r, slc S W.ss.length cap], .int .i64 i, .agg #[.int .i64 10, .string key, .string val]] w (DidPost w base S cap W.ss.length (W, no' tHeld)) := by
  obtain ⟨v1, v2, v3, v4, hs⟩ := h.ses i hi
  obtain ⟨D, d, rfl, hd⟩ := h.rows.form
  obtain ⟨A1, n1, rfl, _⟩ := hs.core.l1.form
  obtain ⟨A2, n2, rfl, _⟩ := hs.core.l2.form
  obtain ⟨A3, n3, rfl, _⟩ := hs.core.l3.form
  obtain ⟨A4, n4, rfl, _⟩ := hs.core.l4.form
  have H0 := Lib.hid (didAt0 w (.slice D W.rows.length d) (.slice (some ⟨S, 0, none⟩) W.ss.length cap) 10 key val W.ss[i].st (.slice A1 W.ss[i].set.length n1) (.slice A2 W.ss[i].prep.length n2) (.slice A3 W.ss[i].sav.length n3) (.slice A4 W.ss[i].wr.length n4))
  have hSw := h.blk.lt
  have bel0 := (doAt0 w (.slice D W.rows.length d) (.slice (some ⟨S, 0, none⟩) W.ss.length cap) 10 key val).bel
  have c0 := (bel0.cell (p := ⟨S, i * 5, none⟩) hSw).trans hs.core.c0
  have c1 := (bel0.cell (p := ⟨S, i * 5 + 1, none⟩) hSw).trans hs.core.c1
  have c2 := (bel0.cell (p := ⟨S, i * 5 + 2, none⟩) hSw).trans hs.core.c2
  have c3 := (bel0.cell (p := ⟨S, i * 5 + 3, none⟩) hSw).trans hs.core.c3
  have c4 := (bel0.cell (p := ⟨S, i * 5 + 4, none⟩) hSw).trans hs.core.c4
  unfold doW0 at c0 c1 c2 c3 c4
  clear bel0
  have hii : (i : Int) < (W.ss.length : Int) := by omega
  have HH := Lib.hid h
  have HS := Lib.hid hs
  have HW := Lib.hid hw
  have t0 : (W.ss[i].st == 2) = false := beq_eq_false_iff_ne.2 hst
  have HHd := Lib.hid hh
  clear h hs hw hst hh
  unfold slc
  go_enter Tryd.func53, Tryd.ntmps53
  go_wp2_with fail
  have HW0 := Lib.hid ((HH.out.below H0.out.bel).wld)
  unfold slc at HW0
  refine (isHeld_any _ _ W i key _ HW0.out).mono ?_
  rw [HHd.out]
  rintro e W5 ⟨rfl, hb5⟩
  have HA := Lib.hid (H0.out.below hb5)
  clear hb5 HW0 H0 c0 c1 c2 c3 c4
  go_wp2_with fail
  have hA := HA.out
  have x0 := hA.X.cell (j := 0) (by simp)
  have x1 := hA.X.cell (j := 1) (by simp)
  simp only [List.getElem_cons_zero, List.getElem_cons_succ] at x0 x1
  have hX5 := hA.X.lt
  have hXR : w.heap.size ≠ w.heap.size + 1 + 1 := by omega
  have hXA : w.heap.size ≠ w.heap.size + 1 + 1 + 1 := by omega
  have HR5 := Lib.hid hA.R
  have HA5 := Lib.hid hA.A
  have HB5 := Lib.hid hA.bel
  have hRw5 := hA.R.lt
  have hAw5 := hA.A.lt
  clear hA
  have kb := Below.refl W5.heap.size W5
  have HSd := Lib.hid (show W5.drew.cell? ⟨w.heap.size, 0, none⟩ = some (.slice D W.rows.length d) ∧ W5.drew.cell? ⟨w.heap.size, 1, none⟩ = some (.slice (some ⟨S, 0, none⟩) W.ss.length cap) from ⟨x0, x1⟩)
  go_region_held3 (fun wx => wx.cell? ⟨w.heap.size, 0, none⟩ = some (.slice D W.rows.length d) ∧ wx.cell? ⟨w.heap.size, 1, none⟩ = some (.slice (some ⟨S, 0, none⟩) W.ss.length cap))
    (first
      | with_reducible exact ⟨x0, x1⟩
      | with_reducible exact HSd.out
      | with_reducible exact ⟨(kb.cell (p := ⟨w.heap.size, 0, none⟩) hX5).trans x0, (kb.cell (p := ⟨w.heap.size, 1, none⟩) hX5).trans x1⟩
      | with_reducible exact ⟨cell_set3 (cell_set2 ((kb.cell (p := ⟨w.heap.size, 0, none⟩) hX5).trans x0) hXR) hXA, cell_set3 (cell_set2 ((kb.cell (p := ⟨w.heap.size, 1, none⟩) hX5).trans x1) hXR) hXA⟩
      | with_reducible exact ⟨cell_set2 ((kb.cell (p := ⟨w.heap.size, 0, none⟩) hX5).trans x0) hXR, cell_set2 ((kb.cell (p := ⟨w.heap.size, 1, none⟩) hX5).trans x1) hXR⟩)
    (first
      | (
        go_at_call 67
        refine (no_any tHeld _).mono ?_
        rintro e w6 ⟨rfl, hy⟩
        have kb : Below W5.heap.size W5 w6 := by first | exact hy | exact bel_addN kb hy kb.size | exact bel_add kb hy kb.size
        have R6 := HR5.out.below kb hRw5
        have A6 := HA5.out.below kb hAw5
        have r0 := R6.cell (j := 0) (by simp)
        have r1 := R6.cell (j := 1) (by simp)
        have b0 := A6.cell (j := 0) (by simp)
        have b1 := A6.cell (j := 1) (by simp)
        have b2 := A6.cell (j := 2) (by simp)
        have g0 := R6.frozen 0
        have g1 := R6.frozen 1
        have k0 := A6.frozen 0
        have k1 := A6.frozen 1
        have k2 := A6.frozen 2
        simp only [List.getElem_cons_zero, List.getElem_cons_succ] at r0 r1 b0 b1 b2
        unfold ansV))
  all_goals go_wp2
  all_goals refine bodyPost_ret (v := .tuple #[.agg #[(.slice D W.rows.length d), (.slice (some ⟨S, 0, none⟩) W.ss.length cap)], .agg #[.int .i64 4, .string tHeld, .int .i64 0]]) (by simp [results, Tryd.results53, go_sem, r0, r1, b0, b1, b2]) rfl ?_
  all_goals exact did_answer HH.out hb (((((bel_add' HB5.out kb HB5.out.size).setCell (by show _ ≤ w.heap.size + 1 + 1; omega) _).setCell (by show _ ≤ w.heap.size + 1 + 1; omega) _).setCell (by show _ ≤ w.heap.size + 1 + 1 + 1; omega) _).setCell (by show _ ≤ w.heap.size + 1 + 1 + 1; omega) _ |>.setCell (by show _ ≤ w.heap.size + 1 + 1 + 1; omega) _) (no' tHeld)

set_option maxHeartbeats 4000000 in
theorem did_put_full (base S cap : Nat) (r : Value) (W : Wd) (i : Nat) (key val : ByteArray) (w : World) (h : RefW w base S cap r W) (hw : WorldOk W) (hb : base ≤ w.heap.size) (hi : i < W.ss.length) (hkz : key.size ≤ 8) (hvz : val.size ≤ 60) (hst : W.ss[i].st ≠ 2) (hh : heldB W.ss i key = false) (hf : atL (allL W) key = none) (h100 : 100 ≤ (allL W).length) :
    Calls Tryd.prog 53 #[.agg #[r, slc S W.ss.length cap], .int .i64 i, .agg #[.int .i64 10, .string key, .string val]] w (DidPost w base S cap W.ss.length (W, no' tFull)) := by
  obtain ⟨v1, v2, v3, v4, hs⟩ := h.ses i hi
  obtain ⟨D, d, rfl, hd⟩ := h.rows.form
  obtain ⟨A1, n1, rfl, _⟩ := hs.core.l1.form
  obtain ⟨A2, n2, rfl, _⟩ := hs.core.l2.form
  obtain ⟨A3, n3, rfl, _⟩ := hs.core.l3.form
  obtain ⟨A4, n4, rfl, _⟩ := hs.core.l4.form
  have H0 := Lib.hid (didAt0 w (.slice D W.rows.length d) (.slice (some ⟨S, 0, none⟩) W.ss.length cap) 10 key val W.ss[i].st (.slice A1 W.ss[i].set.length n1) (.slice A2 W.ss[i].prep.length n2) (.slice A3 W.ss[i].sav.length n3) (.slice A4 W.ss[i].wr.length n4))
  have hSw := h.blk.lt
  have bel0 := (doAt0 w (.slice D W.rows.length d) (.slice (some ⟨S, 0, none⟩) W.ss.length cap) 10 key val).bel
  have c0 := (bel0.cell (p := ⟨S, i * 5, none⟩) hSw).trans hs.core.c0
  have c1 := (bel0.cell (p := ⟨S, i * 5 + 1, none⟩) hSw).trans hs.core.c1
  have c2 := (bel0.cell (p := ⟨S, i * 5 + 2, none⟩) hSw).trans hs.core.c2
  have c3 := (bel0.cell (p := ⟨S, i * 5 + 3, none⟩) hSw).trans hs.core.c3
  have c4 := (bel0.cell (p := ⟨S, i * 5 + 4, none⟩) hSw).trans hs.core.c4
  unfold doW0 at c0 c1 c2 c3 c4
  clear bel0
  have hii : (i : Int) < (W.ss.length : Int) := by omega
  have HH := Lib.hid h
  have HS := Lib.hid hs
  have HW := Lib.hid hw
  have t0 : (W.ss[i].st == 2) = false := beq_eq_false_iff_ne.2 hst
  have t1 : decide ((100 : Int) ≤ ((allL W).length : Int)) = true := decide_eq_true (by omega)
  have HHd := Lib.hid hh
  have HF := Lib.hid hf
  clear h hs hw hst hh hf
  unfold slc
  go_enter Tryd.func53, Tryd.ntmps53
  go_wp2_with fail
  have HW0 := Lib.hid ((HH.out.below H0.out.bel).wld)
  unfold slc at HW0
  refine (isHeld_any _ _ W i key _ HW0.out).mono ?_
  rw [HHd.out]
  rintro e W5 ⟨rfl, hb5⟩
  have HA := Lib.hid (H0.out.below hb5)
  clear hb5 HW0 H0 c0 c1 c2 c3 c4
  have y1 := HA.out.Y.cell (j := 1) (by simp)
  have y2 := HA.out.Y.cell (j := 2) (by simp)
  have x0 := HA.out.X.cell (j := 0) (by simp)
  have x1 := HA.out.X.cell (j := 1) (by simp)
  have z0 := HA.out.Z.cell (j := 0) (by simp)
  have z1 := HA.out.Z.cell (j := 1) (by simp)
  have z2 := HA.out.Z.cell (j := 2) (by simp)
  have z3 := HA.out.Z.cell (j := 3) (by simp)
  have z4 := HA.out.Z.cell (j := 4) (by simp)
  simp only [List.getElem_cons_zero, List.getElem_cons_succ] at y1 y2 x0 x1 z0 z1 z2 z3 z4
  go_wp2_with fail
  have hX5 := HA.out.X.lt
  have hY5 := HA.out.Y.lt
  have BW := Lib.hid HA.out.bel
  have kb := Below.refl W5.heap.size W5
  have HSd := Lib.hid (show W5.drew.cell? ⟨w.heap.size, 0, none⟩ = some (.slice D W.rows.length d) ∧ W5.drew.cell? ⟨w.heap.size, 1, none⟩ = some (.slice (some ⟨S, 0, none⟩) W.ss.length cap) ∧ W5.drew.cell? ⟨w.heap.size + 1, 1, none⟩ = some (.string key) from ⟨x0, x1, y1⟩)
  go_region_held3 (fun wx => wx.cell? ⟨w.heap.size, 0, none⟩ = some (.slice D W.rows.length d) ∧ wx.cell? ⟨w.heap.size, 1, none⟩ = some (.slice (some ⟨S, 0, none⟩) W.ss.length cap) ∧ wx.cell? ⟨w.heap.size + 1, 1, none⟩ = some (.string key))
    (first
      | with_reducible exact ⟨x0, x1, y1⟩
      | with_reducible exact HSd.out
      | with_reducible exact ⟨(kb.cell (p := ⟨w.heap.size, 0, none⟩) hX5).trans x0, (kb.cell (p := ⟨w.heap.size, 1, none⟩) hX5).trans x1, (kb.cell (p := ⟨w.heap.size + 1, 1, none⟩) hY5).trans y1⟩
      | with_reducible exact ⟨cell_drew ((kb.cell (p := ⟨w.heap.size, 0, none⟩) hX5).trans x0), cell_drew ((kb.cell (p := ⟨w.heap.size, 1, none⟩) hX5).trans x1), cell_drew ((kb.cell (p := ⟨w.heap.size + 1, 1, none⟩) hY5).trans y1)⟩)
    (first
      | (
        go_at_call 49
        refine (allRows_any _ _ W _ (by first | exact (HH.out.below bel_add' BW.out kb BW.out.size).wld | exact (HH.out.below (bel_add' BW.out kb BW.out.size).drew).wld | exact (HH.out.below (below_drewN (bel_add' BW.out kb BW.out.size) _)).wld) (pairsB_rising HW.out.rows).2.1 HW.out.many (fun i hi => (pairsB_rising (HW.out.sess i hi).wr).2.1)).mono ?_
        rintro e w6 ⟨v6, rfl, ho, hy⟩
        obtain ⟨A6, c6, rfl⟩ := own_form ho
        have kb : Below W5.heap.size W5 w6 := by first | exact hy | exact bel_addN kb hy kb.size | exact bel_add kb hy kb.size
        have HO := Lib.hid (own_lst ho (all_sizes HW.out).1 (all_sizes HW.out).2))
      | (
        go_at_call 63
        refine (at_any _ (allL W) key _ _ (by first | exact HO.out | exact HO.out.drew | exact HO.out.drewN _)).mono ?_
        rw [HF.out, atV_none]
        rintro e w7 ⟨rfl, hw7⟩
        have kb : Below W5.heap.size W5 w7 := by rw [← hw7]; first | exact kb | exact kb.drew | exact below_drewN kb _
        clear hw7))
  go_wp2_with fail
  have HA7 := Lib.hid (HA.out.below kb)
  refine (allRows_any _ _ W _ (HH.out.below HA7.out.bel).wld (pairsB_rising HW.out.rows).2.1 HW.out.many (fun i hi => (pairsB_rising (HW.out.sess i hi).wr).2.1)).mono ?_
  rintro e w8 ⟨v8, rfl, ho8, hy8⟩
  obtain ⟨A8, c8, rfl⟩ := own_form ho8
  have HA8 := Lib.hid (HA7.out.below hy8)
  clear ho8 hy8 HA7 kb HO HA x0 x1 y1 y2 z0 z1 z2 z3 z4 BW HSd
  go_wp2_with fail
  have hA := HA8.out
  have x0 := hA.X.cell (j := 0) (by simp)
  have x1 := hA.X.cell (j := 1) (by simp)
  simp only [List.getElem_cons_zero, List.getElem_cons_succ] at x0 x1
  have hX5 := hA.X.lt
  have hXR : w.heap.size ≠ w.heap.size + 1 + 1 := by omega
  have hXA : w.heap.size ≠ w.heap.size + 1 + 1 + 1 := by omega
  have HR5 := Lib.hid hA.R
  have HA5 := Lib.hid hA.A
  have HB5 := Lib.hid hA.bel
  have hRw5 := hA.R.lt
  have hAw5 := hA.A.lt
  clear hA
  have kb := Below.refl w8.heap.size w8
  have HSd := Lib.hid (show w8.drew.cell? ⟨w.heap.size, 0, none⟩ = some (.slice D W.rows.length d) ∧ w8.drew.cell? ⟨w.heap.size, 1, none⟩ = some (.slice (some ⟨S, 0, none⟩) W.ss.length cap) from ⟨x0, x1⟩)
  go_region_held3 (fun wx => wx.cell? ⟨w.heap.size, 0, none⟩ = some (.slice D W.rows.length d) ∧ wx.cell? ⟨w.heap.size, 1, none⟩ = some (.slice (some ⟨S, 0, none⟩) W.ss.length cap))
    (first
      | with_reducible exact ⟨x0, x1⟩
      | with_reducible exact HSd.out
      | with_reducible exact ⟨(kb.cell (p := ⟨w.heap.size, 0, none⟩) hX5).trans x0, (kb.cell (p := ⟨w.heap.size, 1, none⟩) hX5).trans x1⟩
      | with_reducible exact ⟨cell_set3 (cell_set2 ((kb.cell (p := ⟨w.heap.size, 0, none⟩) hX5).trans x0) hXR) hXA, cell_set3 (cell_set2 ((kb.cell (p := ⟨w.heap.size, 1, none⟩) hX5).trans x1) hXR) hXA⟩
      | with_reducible exact ⟨cell_set2 ((kb.cell (p := ⟨w.heap.size, 0, none⟩) hX5).trans x0) hXR, cell_set2 ((kb.cell (p := ⟨w.heap.size, 1, none⟩) hX5).trans x1) hXR⟩)
    (first
      | (
        go_at_call 67
        refine (no_any tFull _).mono ?_
        rintro e w6 ⟨rfl, hy⟩
        have kb : Below w8.heap.size w8 w6 := by first | exact hy | exact bel_addN kb hy kb.size | exact bel_add kb hy kb.size
        have R6 := HR5.out.below kb hRw5
        have A6 := HA5.out.below kb hAw5
        have r0 := R6.cell (j := 0) (by simp)
        have r1 := R6.cell (j := 1) (by simp)
        have b0 := A6.cell (j := 0) (by simp)
        have b1 := A6.cell (j := 1) (by simp)
        have b2 := A6.cell (j := 2) (by simp)
        have g0 := R6.frozen 0
        have g1 := R6.frozen 1
        have k0 := A6.frozen 0
        have k1 := A6.frozen 1
        have k2 := A6.frozen 2
        simp only [List.getElem_cons_zero, List.getElem_cons_succ] at r0 r1 b0 b1 b2
        unfold ansV))
  all_goals go_wp2
  all_goals refine bodyPost_ret (v := .tuple #[.agg #[(.slice D W.rows.length d), (.slice (some ⟨S, 0, none⟩) W.ss.length cap)], .agg #[.int .i64 4, .string tFull, .int .i64 0]]) (by simp [results, Tryd.results53, go_sem, r0, r1, b0, b1, b2]) rfl ?_
  all_goals exact did_answer HH.out hb (((((bel_add' HB5.out kb HB5.out.size).setCell (by show _ ≤ w.heap.size + 1 + 1; omega) _).setCell (by show _ ≤ w.heap.size + 1 + 1; omega) _).setCell (by show _ ≤ w.heap.size + 1 + 1 + 1; omega) _).setCell (by show _ ≤ w.heap.size + 1 + 1 + 1; omega) _ |>.setCell (by show _ ≤ w.heap.size + 1 + 1 + 1; omega) _) (no' tFull)
end Go.Proofs.YtpbaobmegomfpabDoor

/-
  The reference's did: Put, stored.
-/
namespace Go.Proofs.YtpbaobmegomfpabDoor
open Go.RowKit
set_option linter.unusedVariables false
set_option linter.unusedSimpArgs false
set_option maxRecDepth 100000

set_option maxHeartbeats 4000000 in
theorem did_put_wr_is (base S cap : Nat) (r : Value) (W : Wd) (i : Nat) (key val : ByteArray) (w : World) (h : RefW w base S cap r W) (hw : WorldOk W) (hb : base ≤ w.heap.size) (hi : i < W.ss.length) (hkz : key.size ≤ 8) (hvz : val.size ≤ 60) (hst : W.ss[i].st ≠ 2) (hh : heldB W.ss i key = false) (v : ByteArray) (hf : atL (allL W) key = some v) (h1 : W.ss[i].st = 1) :
    Calls Tryd.prog 53 #[.agg #[r, slc S W.ss.length cap], .int .i64 i, .agg #[.int .i64 10, .string key, .string val]] w (DidPost w base S cap W.ss.length (W.put i { W.ss[i] with wr := plusL W.ss[i].wr key val }, ok')) := by
  obtain ⟨v1, v2, v3, v4, hs⟩ := h.ses i hi
  obtain ⟨D, d, rfl, hd⟩ := h.rows.form
  obtain ⟨A1, n1, rfl, _⟩ := hs.core.l1.form
  obtain ⟨A2, n2, rfl, _⟩ := hs.core.l2.form
  obtain ⟨A3, n3, rfl, _⟩ := hs.core.l3.form
  obtain ⟨A4, n4, rfl, _⟩ := hs.core.l4.form
  have H0 := Lib.hid (didAt0 w (.slice D W.rows.length d) (.slice (some ⟨S, 0, none⟩) W.ss.length cap) 10 key val W.ss[i].st (.slice A1 W.ss[i].set.length n1) (.slice A2 W.ss[i].prep.length n2) (.slice A3 W.ss[i].sav.length n3) (.slice A4 W.ss[i].wr.length n4))
  have hSw := h.blk.lt
  have bel0 := (doAt0 w (.slice D W.rows.length d) (.slice (some ⟨S, 0, none⟩) W.ss.length cap) 10 key val).bel
  have c0 := (bel0.cell (p := ⟨S, i * 5, none⟩) hSw).trans hs.core.c0
  have c1 := (bel0.cell (p := ⟨S, i * 5 + 1, none⟩) hSw).trans hs.core.c1
  have c2 := (bel0.cell (p := ⟨S, i * 5 + 2, none⟩) hSw).trans hs.core.c2
  have c3 := (bel0.cell (p := ⟨S, i * 5 + 3, none⟩) hSw).trans hs.core.c3
  have c4 := (bel0.cell (p := ⟨S, i * 5 + 4, none⟩) hSw).trans hs.core.c4
  unfold doW0 at c0 c1 c2 c3 c4
  clear bel0
  have hii : (i : Int) < (W.ss.length : Int) := by omega
  have HH := Lib.hid h
  have HS := Lib.hid hs
  have HW := Lib.hid hw
  have t0 : (W.ss[i].st == 2) = false := beq_eq_false_iff_ne.2 hst
  have t1 : (W.ss[i].st == 1) = true := beq_iff_eq.2 h1
  have HHd := Lib.hid hh
  have HF := Lib.hid hf
  clear h hs hw hst hh hf h1
  unfold slc
  go_enter Tryd.func53, Tryd.ntmps53
  go_wp2_with fail
  have HW0 := Lib.hid ((HH.out.below H0.out.bel).wld)
  unfold slc at HW0
  refine (isHeld_any _ _ W i key _ HW0.out).mono ?_
  rw [HHd.out]
  rintro e W5 ⟨rfl, hb5⟩
  have HA := Lib.hid (H0.out.below hb5)
  clear hb5 HW0 H0 c0 c1 c2 c3 c4
  have y1 := HA.out.Y.cell (j := 1) (by simp)
  have y2 := HA.out.Y.cell (j := 2) (by simp)
  have x0 := HA.out.X.cell (j := 0) (by simp)
  have x1 := HA.out.X.cell (j := 1) (by simp)
  have z0 := HA.out.Z.cell (j := 0) (by simp)
  have z1 := HA.out.Z.cell (j := 1) (by simp)
  have z2 := HA.out.Z.cell (j := 2) (by simp)
  have z3 := HA.out.Z.cell (j := 3) (by simp)
  have z4 := HA.out.Z.cell (j := 4) (by simp)
  simp only [List.getElem_cons_zero, List.getElem_cons_succ] at y1 y2 x0 x1 z0 z1 z2 z3 z4
  go_wp2_with fail
  have hX5 := HA.out.X.lt
  have hY5 := HA.out.Y.lt
  have BW := Lib.hid HA.out.bel
  have kb := Below.refl W5.heap.size W5
  have HSd := Lib.hid (show W5.drew.cell? ⟨w.heap.size, 0, none⟩ = some (.slice D W.rows.length d) ∧ W5.drew.cell? ⟨w.heap.size, 1, none⟩ = some (.slice (some ⟨S, 0, none⟩) W.ss.length cap) ∧ W5.drew.cell? ⟨w.heap.size + 1, 1, none⟩ = some (.string key) from ⟨x0, x1, y1⟩)
  go_region_held3 (fun wx => wx.cell? ⟨w.heap.size, 0, none⟩ = some (.slice D W.rows.length d) ∧ wx.cell? ⟨w.heap.size, 1, none⟩ = some (.slice (some ⟨S, 0, none⟩) W.ss.length cap) ∧ wx.cell? ⟨w.heap.size + 1, 1, none⟩ = some (.string key))
    (first
      | with_reducible exact ⟨x0, x1, y1⟩
      | with_reducible exact HSd.out
      | with_reducible exact ⟨(kb.cell (p := ⟨w.heap.size, 0, none⟩) hX5).trans x0, (kb.cell (p := ⟨w.heap.size, 1, none⟩) hX5).trans x1, (kb.cell (p := ⟨w.heap.size + 1, 1, none⟩) hY5).trans y1⟩
      | with_reducible exact ⟨cell_drew ((kb.cell (p := ⟨w.heap.size, 0, none⟩) hX5).trans x0), cell_drew ((kb.cell (p := ⟨w.heap.size, 1, none⟩) hX5).trans x1), cell_drew ((kb.cell (p := ⟨w.heap.size + 1, 1, none⟩) hY5).trans y1)⟩)
    (first
      | (
        go_at_call 49
        refine (allRows_any _ _ W _ (by first | exact (HH.out.below bel_add' BW.out kb BW.out.size).wld | exact (HH.out.below (bel_add' BW.out kb BW.out.size).drew).wld | exact (HH.out.below (below_drewN (bel_add' BW.out kb BW.out.size) _)).wld) (pairsB_rising HW.out.rows).2.1 HW.out.many (fun i hi => (pairsB_rising (HW.out.sess i hi).wr).2.1)).mono ?_
        rintro e w6 ⟨v6, rfl, ho, hy⟩
        obtain ⟨A6, c6, rfl⟩ := own_form ho
        have kb : Below W5.heap.size W5 w6 := by first | exact hy | exact bel_addN kb hy kb.size | exact bel_add kb hy kb.size
        have HO := Lib.hid (own_lst ho (all_sizes HW.out).1 (all_sizes HW.out).2))
      | (
        go_at_call 63
        refine (at_any _ (allL W) key _ _ (by first | exact HO.out | exact HO.out.drew | exact HO.out.drewN _)).mono ?_
        rw [HF.out, atV_some]
        rintro e w7 ⟨rfl, hw7⟩
        have kb : Below W5.heap.size W5 w7 := by rw [← hw7]; first | exact kb | exact kb.drew | exact below_drewN kb _
        clear hw7))
  have HA8 := Lib.hid (HA.out.below kb)
  clear kb HO HA x0 x1 y1 y2 z0 z1 z2 z3 z4 BW HSd
  have y1 := HA8.out.Y.cell (j := 1) (by simp)
  have y2 := HA8.out.Y.cell (j := 2) (by simp)
  have x0 := HA8.out.X.cell (j := 0) (by simp)
  have x1 := HA8.out.X.cell (j := 1) (by simp)
  have z0 := HA8.out.Z.cell (j := 0) (by simp)
  have z1 := HA8.out.Z.cell (j := 1) (by simp)
  have z2 := HA8.out.Z.cell (j := 2) (by simp)
  have z3 := HA8.out.Z.cell (j := 3) (by simp)
  have z4 := HA8.out.Z.cell (j := 4) (by simp)
  simp only [List.getElem_cons_zero, List.getElem_cons_succ] at y1 y2 x0 x1 z0 z1 z2 z3 z4
  go_wp2_with fail
  refine (plus_any _ W.ss[i].wr key val _ (HS.out.core.l4.step HA8.out.bel)).mono ?_
  rintro e w9 ⟨v9, rfl, ho, hy⟩
  obtain ⟨A6, c6, rfl⟩ := own_form ho
  have h6 := HA8.out.below hy
  clear y1 y2 z0 z1 z2 z3 z4 x0 x1
  have x0 := h6.X.cell (j := 0) (by simp)
  have x1 := h6.X.cell (j := 1) (by simp)
  have xf0 := h6.X.frozen 0
  have xf1 := h6.X.frozen 1
  have z0 := h6.Z.cell (j := 0) (by simp)
  have z1 := h6.Z.cell (j := 1) (by simp)
  have z2 := h6.Z.cell (j := 2) (by simp)
  have z3 := h6.Z.cell (j := 3) (by simp)
  have z4 := h6.Z.cell (j := 4) (by simp)
  have zf0 := h6.Z.frozen 0
  have zf1 := h6.Z.frozen 1
  have zf2 := h6.Z.frozen 2
  have zf3 := h6.Z.frozen 3
  have zf4 := h6.Z.frozen 4
  have o0 := h6.O.cell (j := 0) (by simp)
  have o1 := h6.O.cell (j := 1) (by simp)
  have o2 := h6.O.cell (j := 2) (by simp)
  have r0 := h6.R.cell (j := 0) (by simp)
  have r1 := h6.R.cell (j := 1) (by simp)
  have rf0 := h6.R.frozen 0
  have rf1 := h6.R.frozen 1
  have a0 := h6.A.cell (j := 0) (by simp)
  have a1 := h6.A.cell (j := 1) (by simp)
  have a2 := h6.A.cell (j := 2) (by simp)
  have af0 := h6.A.frozen 0
  have af1 := h6.A.frozen 1
  have af2 := h6.A.frozen 2
  simp only [List.getElem_cons_zero, List.getElem_cons_succ] at x0 x1 z0 z1 z2 z3 z4 o0 o1 o2 r0 r1 a0 a1 a2
  have hS6 := HH.out.blk.below h6.bel hSw
  obtain ⟨y0, d0⟩ := hS6.any (j := i * 5) (by have := HH.out.len; omega)
  have df0 := hS6.frozen (i * 5)
  obtain ⟨y1, d1⟩ := hS6.any (j := i * 5 + 1) (by have := HH.out.len; omega)
  have df1 := hS6.frozen (i * 5 + 1)
  obtain ⟨y2, d2⟩ := hS6.any (j := i * 5 + 2) (by have := HH.out.len; omega)
  have df2 := hS6.frozen (i * 5 + 2)
  obtain ⟨y3, d3⟩ := hS6.any (j := i * 5 + 3) (by have := HH.out.len; omega)
  have df3 := hS6.frozen (i * 5 + 3)
  obtain ⟨y4, d4⟩ := hS6.any (j := i * 5 + 4) (by have := HH.out.len; omega)
  have df4 := hS6.frozen (i * 5 + 4)
  have hw6 := h6.size
  have hSz : S < w9.heap.size := Nat.lt_of_lt_of_le hSw (h6.bel).size
  have HO := Lib.hid ho
  have H6 := Lib.hid h6
  clear ho h6 hy hS6
  go_wp2
  have H7 := Lib.hid (w7_of (cap := cap) (wz := (w9.setCell ⟨w.heap.size + 1 + 1 + 1 + 1, 4, none⟩ (.slice A6 (plusL W.ss[i].wr key val).length c6))) (i * 5) (.int .i64 W.ss[i].st) (.slice A1 W.ss[i].set.length n1) (.slice A2 W.ss[i].prep.length n2) (.slice A3 W.ss[i].sav.length n3) (.slice A6 (plusL W.ss[i].wr key val).length c6) H6.out hSw (rv := (.slice D W.rows.length d)) (by exact (H6.out.X.other (p := ⟨w.heap.size + 1 + 1 + 1 + 1, 4, none⟩) (by show w.heap.size + 1 + 1 + 1 + 1 ≠ w.heap.size; omega) (.slice A6 (plusL W.ss[i].wr key val).length c6))) (fun b h1 h2 => (zset_other b h2)) (by simp [World.setCell]) ⟨rfl, rfl, rfl⟩)
  unfold set5 at H7
  clear x0 x1 xf0 xf1 z0 z1 z2 z3 z4 o0 o1 o2 r0 r1 a0 a1 a2 zf0 zf1 zf2 zf3 zf4 rf0 rf1 af0 af1 af2 d0 d1 d2 d3 d4 df0 df1 df2 df3 df4
  generalize ((((((w9.setCell ⟨w.heap.size + 1 + 1 + 1 + 1, 4, none⟩ (.slice A6 (plusL W.ss[i].wr key val).length c6)).setCell ⟨S, i * 5, none⟩ (.int .i64 W.ss[i].st)).setCell ⟨S, i * 5 + 1, none⟩ (.slice A1 W.ss[i].set.length n1)).setCell ⟨S, i * 5 + 2, none⟩ (.slice A2 W.ss[i].prep.length n2)).setCell ⟨S, i * 5 + 3, none⟩ (.slice A3 W.ss[i].sav.length n3)).setCell ⟨S, i * 5 + 4, none⟩ (.slice A6 (plusL W.ss[i].wr key val).length c6)) = W7 at *
  have x0 := H7.out.X.cell (j := 0) (by simp)
  have x1 := H7.out.X.cell (j := 1) (by simp)
  have o0 := H7.out.O.cell (j := 0) (by simp)
  have o1 := H7.out.O.cell (j := 1) (by simp)
  have o2 := H7.out.O.cell (j := 2) (by simp)
  have r0 := H7.out.R.cell (j := 0) (by simp)
  have r1 := H7.out.R.cell (j := 1) (by simp)
  have b0 := H7.out.A.cell (j := 0) (by simp)
  have b1 := H7.out.A.cell (j := 1) (by simp)
  have b2 := H7.out.A.cell (j := 2) (by simp)
  have g0 := H7.out.R.frozen 0
  have g1 := H7.out.R.frozen 1
  have k0 := H7.out.A.frozen 0
  have k1 := H7.out.A.frozen 1
  have k2 := H7.out.A.frozen 2
  simp only [List.getElem_cons_zero, List.getElem_cons_succ] at x0 x1 o0 o1 o2 r0 r1 b0 b1 b2
  have hXR : w.heap.size ≠ w.heap.size + 1 + 1 := by omega
  have hXA : w.heap.size ≠ w.heap.size + 1 + 1 + 1 := by omega
  have hOR : w.heap.size + 1 + 1 + 1 + 1 + 1 ≠ w.heap.size + 1 + 1 := by omega
  have hOA : w.heap.size + 1 + 1 + 1 + 1 + 1 ≠ w.heap.size + 1 + 1 + 1 := by omega
  have HSd := Lib.hid (show W7.drew.cell? ⟨w.heap.size, 0, none⟩ = some (.slice D W.rows.length d) ∧ W7.drew.cell? ⟨w.heap.size, 1, none⟩ = some (.slice (some ⟨S, 0, none⟩) W.ss.length cap) ∧ W7.drew.cell? ⟨w.heap.size + 1 + 1 + 1 + 1 + 1, 0, none⟩ = some (.int .i64 1) ∧ W7.drew.cell? ⟨w.heap.size + 1 + 1 + 1 + 1 + 1, 1, none⟩ = some (.string ⟨#[]⟩) ∧ W7.drew.cell? ⟨w.heap.size + 1 + 1 + 1 + 1 + 1, 2, none⟩ = some (.int .i64 0) from ⟨x0, x1, o0, o1, o2⟩)
  go_region_held3 (fun wx => wx.cell? ⟨w.heap.size, 0, none⟩ = some (.slice D W.rows.length d) ∧ wx.cell? ⟨w.heap.size, 1, none⟩ = some (.slice (some ⟨S, 0, none⟩) W.ss.length cap) ∧ wx.cell? ⟨w.heap.size + 1 + 1 + 1 + 1 + 1, 0, none⟩ = some (.int .i64 1) ∧ wx.cell? ⟨w.heap.size + 1 + 1 + 1 + 1 + 1, 1, none⟩ = some (.string ⟨#[]⟩) ∧ wx.cell? ⟨w.heap.size + 1 + 1 + 1 + 1 + 1, 2, none⟩ = some (.int .i64 0))
    (first
      | with_reducible exact ⟨x0, x1, o0, o1, o2⟩
      | with_reducible exact HSd.out
      | with_reducible exact ⟨cell_set3 (cell_set2 x0 hXR) hXA, cell_set3 (cell_set2 x1 hXR) hXA, cell_set3 (cell_set2 o0 hOR) hOA, cell_set3 (cell_set2 o1 hOR) hOA, cell_set3 (cell_set2 o2 hOR) hOA⟩
      | with_reducible exact ⟨cell_drew (cell_set3 (cell_set2 x0 hXR) hXA), cell_drew (cell_set3 (cell_set2 x1 hXR) hXA), cell_drew (cell_set3 (cell_set2 o0 hOR) hOA), cell_drew (cell_set3 (cell_set2 o1 hOR) hOA), cell_drew (cell_set3 (cell_set2 o2 hOR) hOA)⟩
      | with_reducible exact ⟨cell_drew (cell_set2 x0 hXR), cell_drew (cell_set2 x1 hXR), cell_drew (cell_set2 o0 hOR), cell_drew (cell_set2 o1 hOR), cell_drew (cell_set2 o2 hOR)⟩
      | with_reducible exact ⟨cell_set2 x0 hXR, cell_set2 x1 hXR, cell_set2 o0 hOR, cell_set2 o1 hOR, cell_set2 o2 hOR⟩)
    (fail)
  all_goals go_wp2
  all_goals refine bodyPost_ret (v := .tuple #[.agg #[.slice D W.rows.length d, .slice (some ⟨S, 0, none⟩) W.ss.length cap], .agg #[.int .i64 1, .string ⟨#[]⟩, .int .i64 0]]) (by simp [results, Tryd.results53, go_sem, r0, r1, b0, b1, b2]) rfl ?_
  all_goals exact did_fin (s' := { W.ss[i] with wr := plusL W.ss[i].wr key val }) HH.out hb hi H6.out.bel (HH.out.rows.step H6.out.bel) (HS.out.core.l1.step H6.out.bel) (HS.out.core.l2.step H6.out.bel) (HS.out.core.l3.step H6.out.bel) (own_lst HO.out (plus_sizes (n := 0) ((worldOk_sz HW.out).li i 3 hi (by omega)) hkz hvz).1 (plus_sizes (n := 0) ((worldOk_sz HW.out).li i 3 hi (by omega)) hkz hvz).2) (old_inP HH.out.rows HH.out.rin) (old_inP HS.out.core.l1 HS.out.p1) (old_inP HS.out.core.l2 HS.out.p2) (old_inP HS.out.core.l3 HS.out.p3) (new_inP hSw HA8.out.size HO.out) H7.out (.slice D W.rows.length d) (.slice (some ⟨S, 0, none⟩) W.ss.length cap) (.int .i64 1) (.string ⟨#[]⟩) (.int .i64 0) (by rfl) ⟨by rfl, by rfl, by rfl⟩ ok'

set_option maxHeartbeats 4000000 in
theorem did_put_row_is (base S cap : Nat) (r : Value) (W : Wd) (i : Nat) (key val : ByteArray) (w : World) (h : RefW w base S cap r W) (hw : WorldOk W) (hb : base ≤ w.heap.size) (hi : i < W.ss.length) (hkz : key.size ≤ 8) (hvz : val.size ≤ 60) (hst : W.ss[i].st ≠ 2) (hh : heldB W.ss i key = false) (v : ByteArray) (hf : atL (allL W) key = some v) (h1 : W.ss[i].st ≠ 1) :
    Calls Tryd.prog 53 #[.agg #[r, slc S W.ss.length cap], .int .i64 i, .agg #[.int .i64 10, .string key, .string val]] w (DidPost w base S cap W.ss.length (⟨plusL W.rows key val, W.ss.set i W.ss[i]⟩, ok')) := by
  obtain ⟨v1, v2, v3, v4, hs⟩ := h.ses i hi
  obtain ⟨D, d, rfl, hd⟩ := h.rows.form
  obtain ⟨A1, n1, rfl, _⟩ := hs.core.l1.form
  obtain ⟨A2, n2, rfl, _⟩ := hs.core.l2.form
  obtain ⟨A3, n3, rfl, _⟩ := hs.core.l3.form
  obtain ⟨A4, n4, rfl, _⟩ := hs.core.l4.form
  have H0 := Lib.hid (didAt0 w (.slice D W.rows.length d) (.slice (some ⟨S, 0, none⟩) W.ss.length cap) 10 key val W.ss[i].st (.slice A1 W.ss[i].set.length n1) (.slice A2 W.ss[i].prep.length n2) (.slice A3 W.ss[i].sav.length n3) (.slice A4 W.ss[i].wr.length n4))
  have hSw := h.blk.lt
  have bel0 := (doAt0 w (.slice D W.rows.length d) (.slice (some ⟨S, 0, none⟩) W.ss.length cap) 10 key val).bel
  have c0 := (bel0.cell (p := ⟨S, i * 5, none⟩) hSw).trans hs.core.c0
  have c1 := (bel0.cell (p := ⟨S, i * 5 + 1, none⟩) hSw).trans hs.core.c1
  have c2 := (bel0.cell (p := ⟨S, i * 5 + 2, none⟩) hSw).trans hs.core.c2
  have c3 := (bel0.cell (p := ⟨S, i * 5 + 3, none⟩) hSw).trans hs.core.c3
  have c4 := (bel0.cell (p := ⟨S, i * 5 + 4, none⟩) hSw).trans hs.core.c4
  unfold doW0 at c0 c1 c2 c3 c4
  clear bel0
  have hii : (i : Int) < (W.ss.length : Int) := by omega
  have HH := Lib.hid h
  have HS := Lib.hid hs
  have HW := Lib.hid hw
  have t0 : (W.ss[i].st == 2) = false := beq_eq_false_iff_ne.2 hst
  have t1 : (W.ss[i].st == 1) = false := beq_eq_false_iff_ne.2 h1
  have HHd := Lib.hid hh
  have HF := Lib.hid hf
  clear h hs hw hst hh hf h1
  unfold slc
  go_enter Tryd.func53, Tryd.ntmps53
  go_wp2_with fail
  have HW0 := Lib.hid ((HH.out.below H0.out.bel).wld)
  unfold slc at HW0
  refine (isHeld_any _ _ W i key _ HW0.out).mono ?_
  rw [HHd.out]
  rintro e W5 ⟨rfl, hb5⟩
  have HA := Lib.hid (H0.out.below hb5)
  clear hb5 HW0 H0 c0 c1 c2 c3 c4
  have y1 := HA.out.Y.cell (j := 1) (by simp)
  have y2 := HA.out.Y.cell (j := 2) (by simp)
  have x0 := HA.out.X.cell (j := 0) (by simp)
  have x1 := HA.out.X.cell (j := 1) (by simp)
  have z0 := HA.out.Z.cell (j := 0) (by simp)
  have z1 := HA.out.Z.cell (j := 1) (by simp)
  have z2 := HA.out.Z.cell (j := 2) (by simp)
  have z3 := HA.out.Z.cell (j := 3) (by simp)
  have z4 := HA.out.Z.cell (j := 4) (by simp)
  simp only [List.getElem_cons_zero, List.getElem_cons_succ] at y1 y2 x0 x1 z0 z1 z2 z3 z4
  go_wp2_with fail
  have hX5 := HA.out.X.lt
  have hY5 := HA.out.Y.lt
  have BW := Lib.hid HA.out.bel
  have kb := Below.refl W5.heap.size W5
  have HSd := Lib.hid (show W5.drew.cell? ⟨w.heap.size, 0, none⟩ = some (.slice D W.rows.length d) ∧ W5.drew.cell? ⟨w.heap.size, 1, none⟩ = some (.slice (some ⟨S, 0, none⟩) W.ss.length cap) ∧ W5.drew.cell? ⟨w.heap.size + 1, 1, none⟩ = some (.string key) from ⟨x0, x1, y1⟩)
  go_region_held3 (fun wx => wx.cell? ⟨w.heap.size, 0, none⟩ = some (.slice D W.rows.length d) ∧ wx.cell? ⟨w.heap.size, 1, none⟩ = some (.slice (some ⟨S, 0, none⟩) W.ss.length cap) ∧ wx.cell? ⟨w.heap.size + 1, 1, none⟩ = some (.string key))
    (first
      | with_reducible exact ⟨x0, x1, y1⟩
      | with_reducible exact HSd.out
      | with_reducible exact ⟨(kb.cell (p := ⟨w.heap.size, 0, none⟩) hX5).trans x0, (kb.cell (p := ⟨w.heap.size, 1, none⟩) hX5).trans x1, (kb.cell (p := ⟨w.heap.size + 1, 1, none⟩) hY5).trans y1⟩
      | with_reducible exact ⟨cell_drew ((kb.cell (p := ⟨w.heap.size, 0, none⟩) hX5).trans x0), cell_drew ((kb.cell (p := ⟨w.heap.size, 1, none⟩) hX5).trans x1), cell_drew ((kb.cell (p := ⟨w.heap.size + 1, 1, none⟩) hY5).trans y1)⟩)
    (first
      | (
        go_at_call 49
        refine (allRows_any _ _ W _ (by first | exact (HH.out.below bel_add' BW.out kb BW.out.size).wld | exact (HH.out.below (bel_add' BW.out kb BW.out.size).drew).wld | exact (HH.out.below (below_drewN (bel_add' BW.out kb BW.out.size) _)).wld) (pairsB_rising HW.out.rows).2.1 HW.out.many (fun i hi => (pairsB_rising (HW.out.sess i hi).wr).2.1)).mono ?_
        rintro e w6 ⟨v6, rfl, ho, hy⟩
        obtain ⟨A6, c6, rfl⟩ := own_form ho
        have kb : Below W5.heap.size W5 w6 := by first | exact hy | exact bel_addN kb hy kb.size | exact bel_add kb hy kb.size
        have HO := Lib.hid (own_lst ho (all_sizes HW.out).1 (all_sizes HW.out).2))
      | (
        go_at_call 63
        refine (at_any _ (allL W) key _ _ (by first | exact HO.out | exact HO.out.drew | exact HO.out.drewN _)).mono ?_
        rw [HF.out, atV_some]
        rintro e w7 ⟨rfl, hw7⟩
        have kb : Below W5.heap.size W5 w7 := by rw [← hw7]; first | exact kb | exact kb.drew | exact below_drewN kb _
        clear hw7))
  have HA8 := Lib.hid (HA.out.below kb)
  clear kb HO HA x0 x1 y1 y2 z0 z1 z2 z3 z4 BW HSd
  have y1 := HA8.out.Y.cell (j := 1) (by simp)
  have y2 := HA8.out.Y.cell (j := 2) (by simp)
  have x0 := HA8.out.X.cell (j := 0) (by simp)
  have x1 := HA8.out.X.cell (j := 1) (by simp)
  have z0 := HA8.out.Z.cell (j := 0) (by simp)
  have z1 := HA8.out.Z.cell (j := 1) (by simp)
  have z2 := HA8.out.Z.cell (j := 2) (by simp)
  have z3 := HA8.out.Z.cell (j := 3) (by simp)
  have z4 := HA8.out.Z.cell (j := 4) (by simp)
  simp only [List.getElem_cons_zero, List.getElem_cons_succ] at y1 y2 x0 x1 z0 z1 z2 z3 z4
  go_wp2_with fail
  refine (plus_any _ W.rows key val _ (HH.out.rows.step HA8.out.bel)).mono ?_
  rintro e w9 ⟨v9, rfl, ho, hy⟩
  obtain ⟨A6, c6, rfl⟩ := own_form ho
  have h6 := HA8.out.below hy
  clear y1 y2 z0 z1 z2 z3 z4 x0 x1
  have x0 := h6.X.cell (j := 0) (by simp)
  have x1 := h6.X.cell (j := 1) (by simp)
  have xf0 := h6.X.frozen 0
  have xf1 := h6.X.frozen 1
  have z0 := h6.Z.cell (j := 0) (by simp)
  have z1 := h6.Z.cell (j := 1) (by simp)
  have z2 := h6.Z.cell (j := 2) (by simp)
  have z3 := h6.Z.cell (j := 3) (by simp)
  have z4 := h6.Z.cell (j := 4) (by simp)
  have zf0 := h6.Z.frozen 0
  have zf1 := h6.Z.frozen 1
  have zf2 := h6.Z.frozen 2
  have zf3 := h6.Z.frozen 3
  have zf4 := h6.Z.frozen 4
  have o0 := h6.O.cell (j := 0) (by simp)
  have o1 := h6.O.cell (j := 1) (by simp)
  have o2 := h6.O.cell (j := 2) (by simp)
  have r0 := h6.R.cell (j := 0) (by simp)
  have r1 := h6.R.cell (j := 1) (by simp)
  have rf0 := h6.R.frozen 0
  have rf1 := h6.R.frozen 1
  have a0 := h6.A.cell (j := 0) (by simp)
  have a1 := h6.A.cell (j := 1) (by simp)
  have a2 := h6.A.cell (j := 2) (by simp)
  have af0 := h6.A.frozen 0
  have af1 := h6.A.frozen 1
  have af2 := h6.A.frozen 2
  simp only [List.getElem_cons_zero, List.getElem_cons_succ] at x0 x1 z0 z1 z2 z3 z4 o0 o1 o2 r0 r1 a0 a1 a2
  have hS6 := HH.out.blk.below h6.bel hSw
  obtain ⟨y0, d0⟩ := hS6.any (j := i * 5) (by have := HH.out.len; omega)
  have df0 := hS6.frozen (i * 5)
  obtain ⟨y1, d1⟩ := hS6.any (j := i * 5 + 1) (by have := HH.out.len; omega)
  have df1 := hS6.frozen (i * 5 + 1)
  obtain ⟨y2, d2⟩ := hS6.any (j := i * 5 + 2) (by have := HH.out.len; omega)
  have df2 := hS6.frozen (i * 5 + 2)
  obtain ⟨y3, d3⟩ := hS6.any (j := i * 5 + 3) (by have := HH.out.len; omega)
  have df3 := hS6.frozen (i * 5 + 3)
  obtain ⟨y4, d4⟩ := hS6.any (j := i * 5 + 4) (by have := HH.out.len; omega)
  have df4 := hS6.frozen (i * 5 + 4)
  have hw6 := h6.size
  have hSz : S < w9.heap.size := Nat.lt_of_lt_of_le hSw (h6.bel).size
  have HO := Lib.hid ho
  have H6 := Lib.hid h6
  clear ho h6 hy hS6
  go_wp2
  have H7 := Lib.hid (w7_of (cap := cap) (wz := (w9.setCell ⟨w.heap.size, 0, none⟩ (.slice A6 (plusL W.rows key val).length c6))) (i * 5) (.int .i64 W.ss[i].st) (.slice A1 W.ss[i].set.length n1) (.slice A2 W.ss[i].prep.length n2) (.slice A3 W.ss[i].sav.length n3) (.slice A4 W.ss[i].wr.length n4) H6.out hSw (rv := (.slice A6 (plusL W.rows key val).length c6)) (by exact (H6.out.X.put (j := 0) (by simp) (.slice A6 (plusL W.rows key val).length c6))) (fun b h1 h2 => (zset_other b h1)) (by simp [World.setCell]) ⟨rfl, rfl, rfl⟩)
  unfold set5 at H7
  clear x0 x1 xf0 xf1 z0 z1 z2 z3 z4 o0 o1 o2 r0 r1 a0 a1 a2 zf0 zf1 zf2 zf3 zf4 rf0 rf1 af0 af1 af2 d0 d1 d2 d3 d4 df0 df1 df2 df3 df4
  generalize ((((((w9.setCell ⟨w.heap.size, 0, none⟩ (.slice A6 (plusL W.rows key val).length c6)).setCell ⟨S, i * 5, none⟩ (.int .i64 W.ss[i].st)).setCell ⟨S, i * 5 + 1, none⟩ (.slice A1 W.ss[i].set.length n1)).setCell ⟨S, i * 5 + 2, none⟩ (.slice A2 W.ss[i].prep.length n2)).setCell ⟨S, i * 5 + 3, none⟩ (.slice A3 W.ss[i].sav.length n3)).setCell ⟨S, i * 5 + 4, none⟩ (.slice A4 W.ss[i].wr.length n4)) = W7 at *
  have x0 := H7.out.X.cell (j := 0) (by simp)
  have x1 := H7.out.X.cell (j := 1) (by simp)
  have o0 := H7.out.O.cell (j := 0) (by simp)
  have o1 := H7.out.O.cell (j := 1) (by simp)
  have o2 := H7.out.O.cell (j := 2) (by simp)
  have r0 := H7.out.R.cell (j := 0) (by simp)
  have r1 := H7.out.R.cell (j := 1) (by simp)
  have b0 := H7.out.A.cell (j := 0) (by simp)
  have b1 := H7.out.A.cell (j := 1) (by simp)
  have b2 := H7.out.A.cell (j := 2) (by simp)
  have g0 := H7.out.R.frozen 0
  have g1 := H7.out.R.frozen 1
  have k0 := H7.out.A.frozen 0
  have k1 := H7.out.A.frozen 1
  have k2 := H7.out.A.frozen 2
  simp only [List.getElem_cons_zero, List.getElem_cons_succ] at x0 x1 o0 o1 o2 r0 r1 b0 b1 b2
  have hXR : w.heap.size ≠ w.heap.size + 1 + 1 := by omega
  have hXA : w.heap.size ≠ w.heap.size + 1 + 1 + 1 := by omega
  have hOR : w.heap.size + 1 + 1 + 1 + 1 + 1 ≠ w.heap.size + 1 + 1 := by omega
  have hOA : w.heap.size + 1 + 1 + 1 + 1 + 1 ≠ w.heap.size + 1 + 1 + 1 := by omega
  have HSd := Lib.hid (show W7.drew.cell? ⟨w.heap.size, 0, none⟩ = some (.slice A6 (plusL W.rows key val).length c6) ∧ W7.drew.cell? ⟨w.heap.size, 1, none⟩ = some (.slice (some ⟨S, 0, none⟩) W.ss.length cap) ∧ W7.drew.cell? ⟨w.heap.size + 1 + 1 + 1 + 1 + 1, 0, none⟩ = some (.int .i64 1) ∧ W7.drew.cell? ⟨w.heap.size + 1 + 1 + 1 + 1 + 1, 1, none⟩ = some (.string ⟨#[]⟩) ∧ W7.drew.cell? ⟨w.heap.size + 1 + 1 + 1 + 1 + 1, 2, none⟩ = some (.int .i64 0) from ⟨x0, x1, o0, o1, o2⟩)
  go_region_held3 (fun wx => wx.cell? ⟨w.heap.size, 0, none⟩ = some (.slice A6 (plusL W.rows key val).length c6) ∧ wx.cell? ⟨w.heap.size, 1, none⟩ = some (.slice (some ⟨S, 0, none⟩) W.ss.length cap) ∧ wx.cell? ⟨w.heap.size + 1 + 1 + 1 + 1 + 1, 0, none⟩ = some (.int .i64 1) ∧ wx.cell? ⟨w.heap.size + 1 + 1 + 1 + 1 + 1, 1, none⟩ = some (.string ⟨#[]⟩) ∧ wx.cell? ⟨w.heap.size + 1 + 1 + 1 + 1 + 1, 2, none⟩ = some (.int .i64 0))
    (first
      | with_reducible exact ⟨x0, x1, o0, o1, o2⟩
      | with_reducible exact HSd.out
      | with_reducible exact ⟨cell_set3 (cell_set2 x0 hXR) hXA, cell_set3 (cell_set2 x1 hXR) hXA, cell_set3 (cell_set2 o0 hOR) hOA, cell_set3 (cell_set2 o1 hOR) hOA, cell_set3 (cell_set2 o2 hOR) hOA⟩
      | with_reducible exact ⟨cell_drew (cell_set3 (cell_set2 x0 hXR) hXA), cell_drew (cell_set3 (cell_set2 x1 hXR) hXA), cell_drew (cell_set3 (cell_set2 o0 hOR) hOA), cell_drew (cell_set3 (cell_set2 o1 hOR) hOA), cell_drew (cell_set3 (cell_set2 o2 hOR) hOA)⟩
      | with_reducible exact ⟨cell_drew (cell_set2 x0 hXR), cell_drew (cell_set2 x1 hXR), cell_drew (cell_set2 o0 hOR), cell_drew (cell_set2 o1 hOR), cell_drew (cell_set2 o2 hOR)⟩
      | with_reducible exact ⟨cell_set2 x0 hXR, cell_set2 x1 hXR, cell_set2 o0 hOR, cell_set2 o1 hOR, cell_set2 o2 hOR⟩)
    (fail)
  all_goals go_wp2
  all_goals refine bodyPost_ret (v := .tuple #[.agg #[.slice A6 (plusL W.rows key val).length c6, .slice (some ⟨S, 0, none⟩) W.ss.length cap], .agg #[.int .i64 1, .string ⟨#[]⟩, .int .i64 0]]) (by simp [results, Tryd.results53, go_sem, r0, r1, b0, b1, b2]) rfl ?_
  all_goals exact did_fin (s' := W.ss[i]) HH.out hb hi H6.out.bel (own_lst HO.out (plus_sizes (n := 0) (worldOk_sz HW.out).rows hkz hvz).1 (plus_sizes (n := 0) (worldOk_sz HW.out).rows hkz hvz).2) (HS.out.core.l1.step H6.out.bel) (HS.out.core.l2.step H6.out.bel) (HS.out.core.l3.step H6.out.bel) (HS.out.core.l4.step H6.out.bel) (new_inP hSw HA8.out.size HO.out) (old_inP HS.out.core.l1 HS.out.p1) (old_inP HS.out.core.l2 HS.out.p2) (old_inP HS.out.core.l3 HS.out.p3) (old_inP HS.out.core.l4 HS.out.p4) H7.out (.slice A6 (plusL W.rows key val).length c6) (.slice (some ⟨S, 0, none⟩) W.ss.length cap) (.int .i64 1) (.string ⟨#[]⟩) (.int .i64 0) (by rfl) ⟨by rfl, by rfl, by rfl⟩ ok'
end Go.Proofs.YtpbaobmegomfpabDoor

/-
  The reference's did: Put, stored anew.
-/
namespace Go.Proofs.YtpbaobmegomfpabDoor
open Go.RowKit
set_option linter.unusedVariables false
set_option linter.unusedSimpArgs false
set_option maxRecDepth 100000

set_option maxHeartbeats 4000000 in
theorem did_put_wr_new (base S cap : Nat) (r : Value) (W : Wd) (i : Nat) (key val : ByteArray) (w : World) (h : RefW w base S cap r W) (hw : WorldOk W) (hb : base ≤ w.heap.size) (hi : i < W.ss.length) (hkz : key.size ≤ 8) (hvz : val.size ≤ 60) (hst : W.ss[i].st ≠ 2) (hh : heldB W.ss i key = false) (hf : atL (allL W) key = none) (h100 : (allL W).length < 100) (h1 : W.ss[i].st = 1) :
    Calls Tryd.prog 53 #[.agg #[r, slc S W.ss.length cap], .int .i64 i, .agg #[.int .i64 10, .string key, .string val]] w (DidPost w base S cap W.ss.length (W.put i { W.ss[i] with wr := plusL W.ss[i].wr key val }, ok')) := by
  obtain ⟨v1, v2, v3, v4, hs⟩ := h.ses i hi
  obtain ⟨D, d, rfl, hd⟩ := h.rows.form
  obtain ⟨A1, n1, rfl, _⟩ := hs.core.l1.form
  obtain ⟨A2, n2, rfl, _⟩ := hs.core.l2.form
  obtain ⟨A3, n3, rfl, _⟩ := hs.core.l3.form
  obtain ⟨A4, n4, rfl, _⟩ := hs.core.l4.form
  have H0 := Lib.hid (didAt0 w (.slice D W.rows.length d) (.slice (some ⟨S, 0, none⟩) W.ss.length cap) 10 key val W.ss[i].st (.slice A1 W.ss[i].set.length n1) (.slice A2 W.ss[i].prep.length n2) (.slice A3 W.ss[i].sav.length n3) (.slice A4 W.ss[i].wr.length n4))
  have hSw := h.blk.lt
  have bel0 := (doAt0 w (.slice D W.rows.length d) (.slice (some ⟨S, 0, none⟩) W.ss.length cap) 10 key val).bel
  have c0 := (bel0.cell (p := ⟨S, i * 5, none⟩) hSw).trans hs.core.c0
  have c1 := (bel0.cell (p := ⟨S, i * 5 + 1, none⟩) hSw).trans hs.core.c1
  have c2 := (bel0.cell (p := ⟨S, i * 5 + 2, none⟩) hSw).trans hs.core.c2
  have c3 := (bel0.cell (p := ⟨S, i * 5 + 3, none⟩) hSw).trans hs.core.c3
  have c4 := (bel0.cell (p := ⟨S, i * 5 + 4, none⟩) hSw).trans hs.core.c4
  unfold doW0 at c0 c1 c2 c3 c4
  clear bel0
  have hii : (i : Int) < (W.ss.length : Int) := by omega
  have HH := Lib.hid h
  have HS := Lib.hid hs
  have HW := Lib.hid hw
  have t0 : (W.ss[i].st == 2) = false := beq_eq_false_iff_ne.2 hst
  have t1 : (W.ss[i].st == 1) = true := beq_iff_eq.2 h1
  have t2 : decide ((100 : Int) ≤ ((allL W).length : Int)) = false := decide_eq_false (by omega)
  have HHd := Lib.hid hh
  have HF := Lib.hid hf
  clear h hs hw hst hh hf h1
  unfold slc
  go_enter Tryd.func53, Tryd.ntmps53
  go_wp2_with fail
  have HW0 := Lib.hid ((HH.out.below H0.out.bel).wld)
  unfold slc at HW0
  refine (isHeld_any _ _ W i key _ HW0.out).mono ?_
  rw [HHd.out]
  rintro e W5 ⟨rfl, hb5⟩
  have HA := Lib.hid (H0.out.below hb5)
  clear hb5 HW0 H0 c0 c1 c2 c3 c4
  have y1 := HA.out.Y.cell (j := 1) (by simp)
  have y2 := HA.out.Y.cell (j := 2) (by simp)
  have x0 := HA.out.X.cell (j := 0) (by simp)
  have x1 := HA.out.X.cell (j := 1) (by simp)
  have z0 := HA.out.Z.cell (j := 0) (by simp)
  have z1 := HA.out.Z.cell (j := 1) (by simp)
  have z2 := HA.out.Z.cell (j := 2) (by simp)
  have z3 := HA.out.Z.cell (j := 3) (by simp)
  have z4 := HA.out.Z.cell (j := 4) (by simp)
  simp only [List.getElem_cons_zero, List.getElem_cons_succ] at y1 y2 x0 x1 z0 z1 z2 z3 z4
  go_wp2_with fail
  have hX5 := HA.out.X.lt
  have hY5 := HA.out.Y.lt
  have BW := Lib.hid HA.out.bel
  have kb := Below.refl W5.heap.size W5
  have HSd := Lib.hid (show W5.drew.cell? ⟨w.heap.size, 0, none⟩ = some (.slice D W.rows.length d) ∧ W5.drew.cell? ⟨w.heap.size, 1, none⟩ = some (.slice (some ⟨S, 0, none⟩) W.ss.length cap) ∧ W5.drew.cell? ⟨w.heap.size + 1, 1, none⟩ = some (.string key) from ⟨x0, x1, y1⟩)
  go_region_held3 (fun wx => wx.cell? ⟨w.heap.size, 0, none⟩ = some (.slice D W.rows.length d) ∧ wx.cell? ⟨w.heap.size, 1, none⟩ = some (.slice (some ⟨S, 0, none⟩) W.ss.length cap) ∧ wx.cell? ⟨w.heap.size + 1, 1, none⟩ = some (.string key))
    (first
      | with_reducible exact ⟨x0, x1, y1⟩
      | with_reducible exact HSd.out
      | with_reducible exact ⟨(kb.cell (p := ⟨w.heap.size, 0, none⟩) hX5).trans x0, (kb.cell (p := ⟨w.heap.size, 1, none⟩) hX5).trans x1, (kb.cell (p := ⟨w.heap.size + 1, 1, none⟩) hY5).trans y1⟩
      | with_reducible exact ⟨cell_drew ((kb.cell (p := ⟨w.heap.size, 0, none⟩) hX5).trans x0), cell_drew ((kb.cell (p := ⟨w.heap.size, 1, none⟩) hX5).trans x1), cell_drew ((kb.cell (p := ⟨w.heap.size + 1, 1, none⟩) hY5).trans y1)⟩)
    (first
      | (
        go_at_call 49
        refine (allRows_any _ _ W _ (by first | exact (HH.out.below bel_add' BW.out kb BW.out.size).wld | exact (HH.out.below (bel_add' BW.out kb BW.out.size).drew).wld | exact (HH.out.below (below_drewN (bel_add' BW.out kb BW.out.size) _)).wld) (pairsB_rising HW.out.rows).2.1 HW.out.many (fun i hi => (pairsB_rising (HW.out.sess i hi).wr).2.1)).mono ?_
        rintro e w6 ⟨v6, rfl, ho, hy⟩
        obtain ⟨A6, c6, rfl⟩ := own_form ho
        have kb : Below W5.heap.size W5 w6 := by first | exact hy | exact bel_addN kb hy kb.size | exact bel_add kb hy kb.size
        have HO := Lib.hid (own_lst ho (all_sizes HW.out).1 (all_sizes HW.out).2))
      | (
        go_at_call 63
        refine (at_any _ (allL W) key _ _ (by first | exact HO.out | exact HO.out.drew | exact HO.out.drewN _)).mono ?_
        rw [HF.out, atV_none]
        rintro e w7 ⟨rfl, hw7⟩
        have kb : Below W5.heap.size W5 w7 := by rw [← hw7]; first | exact kb | exact kb.drew | exact below_drewN kb _
        clear hw7))
  go_wp2_with fail
  have HA7 := Lib.hid (HA.out.below kb)
  refine (allRows_any _ _ W _ (HH.out.below HA7.out.bel).wld (pairsB_rising HW.out.rows).2.1 HW.out.many (fun i hi => (pairsB_rising (HW.out.sess i hi).wr).2.1)).mono ?_
  rintro e w8 ⟨v8, rfl, ho8, hy8⟩
  obtain ⟨A8, c8, rfl⟩ := own_form ho8
  have HA8 := Lib.hid (HA7.out.below hy8)
  clear ho8 hy8 HA7 kb HO HA x0 x1 y1 y2 z0 z1 z2 z3 z4 BW HSd
  have y1 := HA8.out.Y.cell (j := 1) (by simp)
  have y2 := HA8.out.Y.cell (j := 2) (by simp)
  have x0 := HA8.out.X.cell (j := 0) (by simp)
  have x1 := HA8.out.X.cell (j := 1) (by simp)
  have z0 := HA8.out.Z.cell (j := 0) (by simp)
  have z1 := HA8.out.Z.cell (j := 1) (by simp)
  have z2 := HA8.out.Z.cell (j := 2) (by simp)
  have z3 := HA8.out.Z.cell (j := 3) (by simp)
  have z4 := HA8.out.Z.cell (j := 4) (by simp)
  simp only [List.getElem_cons_zero, List.getElem_cons_succ] at y1 y2 x0 x1 z0 z1 z2 z3 z4
  go_wp2_with fail
  refine (plus_any _ W.ss[i].wr key val _ (HS.out.core.l4.step HA8.out.bel)).mono ?_
  rintro e w9 ⟨v9, rfl, ho, hy⟩
  obtain ⟨A6, c6, rfl⟩ := own_form ho
  have h6 := HA8.out.below hy
  clear y1 y2 z0 z1 z2 z3 z4 x0 x1
  have x0 := h6.X.cell (j := 0) (by simp)
  have x1 := h6.X.cell (j := 1) (by simp)
  have xf0 := h6.X.frozen 0
  have xf1 := h6.X.frozen 1
  have z0 := h6.Z.cell (j := 0) (by simp)
  have z1 := h6.Z.cell (j := 1) (by simp)
  have z2 := h6.Z.cell (j := 2) (by simp)
  have z3 := h6.Z.cell (j := 3) (by simp)
  have z4 := h6.Z.cell (j := 4) (by simp)
  have zf0 := h6.Z.frozen 0
  have zf1 := h6.Z.frozen 1
  have zf2 := h6.Z.frozen 2
  have zf3 := h6.Z.frozen 3
  have zf4 := h6.Z.frozen 4
  have o0 := h6.O.cell (j := 0) (by simp)
  have o1 := h6.O.cell (j := 1) (by simp)
  have o2 := h6.O.cell (j := 2) (by simp)
  have r0 := h6.R.cell (j := 0) (by simp)
  have r1 := h6.R.cell (j := 1) (by simp)
  have rf0 := h6.R.frozen 0
  have rf1 := h6.R.frozen 1
  have a0 := h6.A.cell (j := 0) (by simp)
  have a1 := h6.A.cell (j := 1) (by simp)
  have a2 := h6.A.cell (j := 2) (by simp)
  have af0 := h6.A.frozen 0
  have af1 := h6.A.frozen 1
  have af2 := h6.A.frozen 2
  simp only [List.getElem_cons_zero, List.getElem_cons_succ] at x0 x1 z0 z1 z2 z3 z4 o0 o1 o2 r0 r1 a0 a1 a2
  have hS6 := HH.out.blk.below h6.bel hSw
  obtain ⟨y0, d0⟩ := hS6.any (j := i * 5) (by have := HH.out.len; omega)
  have df0 := hS6.frozen (i * 5)
  obtain ⟨y1, d1⟩ := hS6.any (j := i * 5 + 1) (by have := HH.out.len; omega)
  have df1 := hS6.frozen (i * 5 + 1)
  obtain ⟨y2, d2⟩ := hS6.any (j := i * 5 + 2) (by have := HH.out.len; omega)
  have df2 := hS6.frozen (i * 5 + 2)
  obtain ⟨y3, d3⟩ := hS6.any (j := i * 5 + 3) (by have := HH.out.len; omega)
  have df3 := hS6.frozen (i * 5 + 3)
  obtain ⟨y4, d4⟩ := hS6.any (j := i * 5 + 4) (by have := HH.out.len; omega)
  have df4 := hS6.frozen (i * 5 + 4)
  have hw6 := h6.size
  have hSz : S < w9.heap.size := Nat.lt_of_lt_of_le hSw (h6.bel).size
  have HO := Lib.hid ho
  have H6 := Lib.hid h6
  clear ho h6 hy hS6
  go_wp2
  have H7 := Lib.hid (w7_of (cap := cap) (wz := (w9.setCell ⟨w.heap.size + 1 + 1 + 1 + 1, 4, none⟩ (.slice A6 (plusL W.ss[i].wr key val).length c6))) (i * 5) (.int .i64 W.ss[i].st) (.slice A1 W.ss[i].set.length n1) (.slice A2 W.ss[i].prep.length n2) (.slice A3 W.ss[i].sav.length n3) (.slice A6 (plusL W.ss[i].wr key val).length c6) H6.out hSw (rv := (.slice D W.rows.length d)) (by exact (H6.out.X.other (p := ⟨w.heap.size + 1 + 1 + 1 + 1, 4, none⟩) (by show w.heap.size + 1 + 1 + 1 + 1 ≠ w.heap.size; omega) (.slice A6 (plusL W.ss[i].wr key val).length c6))) (fun b h1 h2 => (zset_other b h2)) (by simp [World.setCell]) ⟨rfl, rfl, rfl⟩)
  unfold set5 at H7
  clear x0 x1 xf0 xf1 z0 z1 z2 z3 z4 o0 o1 o2 r0 r1 a0 a1 a2 zf0 zf1 zf2 zf3 zf4 rf0 rf1 af0 af1 af2 d0 d1 d2 d3 d4 df0 df1 df2 df3 df4
  generalize ((((((w9.setCell ⟨w.heap.size + 1 + 1 + 1 + 1, 4, none⟩ (.slice A6 (plusL W.ss[i].wr key val).length c6)).setCell ⟨S, i * 5, none⟩ (.int .i64 W.ss[i].st)).setCell ⟨S, i * 5 + 1, none⟩ (.slice A1 W.ss[i].set.length n1)).setCell ⟨S, i * 5 + 2, none⟩ (.slice A2 W.ss[i].prep.length n2)).setCell ⟨S, i * 5 + 3, none⟩ (.slice A3 W.ss[i].sav.length n3)).setCell ⟨S, i * 5 + 4, none⟩ (.slice A6 (plusL W.ss[i].wr key val).length c6)) = W7 at *
  have x0 := H7.out.X.cell (j := 0) (by simp)
  have x1 := H7.out.X.cell (j := 1) (by simp)
  have o0 := H7.out.O.cell (j := 0) (by simp)
  have o1 := H7.out.O.cell (j := 1) (by simp)
  have o2 := H7.out.O.cell (j := 2) (by simp)
  have r0 := H7.out.R.cell (j := 0) (by simp)
  have r1 := H7.out.R.cell (j := 1) (by simp)
  have b0 := H7.out.A.cell (j := 0) (by simp)
  have b1 := H7.out.A.cell (j := 1) (by simp)
  have b2 := H7.out.A.cell (j := 2) (by simp)
  have g0 := H7.out.R.frozen 0
  have g1 := H7.out.R.frozen 1
  have k0 := H7.out.A.frozen 0
  have k1 := H7.out.A.frozen 1
  have k2 := H7.out.A.frozen 2
  simp only [List.getElem_cons_zero, List.getElem_cons_succ] at x0 x1 o0 o1 o2 r0 r1 b0 b1 b2
  have hXR : w.heap.size ≠ w.heap.size + 1 + 1 := by omega
  have hXA : w.heap.size ≠ w.heap.size + 1 + 1 + 1 := by omega
  have hOR : w.heap.size + 1 + 1 + 1 + 1 + 1 ≠ w.heap.size + 1 + 1 := by omega
  have hOA : w.heap.size + 1 + 1 + 1 + 1 + 1 ≠ w.heap.size + 1 + 1 + 1 := by omega
  have HSd := Lib.hid (show W7.drew.cell? ⟨w.heap.size, 0, none⟩ = some (.slice D W.rows.length d) ∧ W7.drew.cell? ⟨w.heap.size, 1, none⟩ = some (.slice (some ⟨S, 0, none⟩) W.ss.length cap) ∧ W7.drew.cell? ⟨w.heap.size + 1 + 1 + 1 + 1 + 1, 0, none⟩ = some (.int .i64 1) ∧ W7.drew.cell? ⟨w.heap.size + 1 + 1 + 1 + 1 + 1, 1, none⟩ = some (.string ⟨#[]⟩) ∧ W7.drew.cell? ⟨w.heap.size + 1 + 1 + 1 + 1 + 1, 2, none⟩ = some (.int .i64 0) from ⟨x0, x1, o0, o1, o2⟩)
  go_region_held3 (fun wx => wx.cell? ⟨w.heap.size, 0, none⟩ = some (.slice D W.rows.length d) ∧ wx.cell? ⟨w.heap.size, 1, none⟩ = some (.slice (some ⟨S, 0, none⟩) W.ss.length cap) ∧ wx.cell? ⟨w.heap.size + 1 + 1 + 1 + 1 + 1, 0, none⟩ = some (.int .i64 1) ∧ wx.cell? ⟨w.heap.size + 1 + 1 + 1 + 1 + 1, 1, none⟩ = some (.string ⟨#[]⟩) ∧ wx.cell? ⟨w.heap.size + 1 + 1 + 1 + 1 + 1, 2, none⟩ = some (.int .i64 0))
    (first
      | with_reducible exact ⟨x0, x1, o0, o1, o2⟩
      | with_reducible exact HSd.out
      | with_reducible exact ⟨cell_set3 (cell_set2 x0 hXR) hXA, cell_set3 (cell_set2 x1 hXR) hXA, cell_set3 (cell_set2 o0 hOR) hOA, cell_set3 (cell_set2 o1 hOR) hOA, cell_set3 (cell_set2 o2 hOR) hOA⟩
      | with_reducible exact ⟨cell_drew (cell_set3 (cell_set2 x0 hXR) hXA), cell_drew (cell_set3 (cell_set2 x1 hXR) hXA), cell_drew (cell_set3 (cell_set2 o0 hOR) hOA), cell_drew (cell_set3 (cell_set2 o1 hOR) hOA), cell_drew (cell_set3 (cell_set2 o2 hOR) hOA)⟩
      | with_reducible exact ⟨cell_drew (cell_set2 x0 hXR), cell_drew (cell_set2 x1 hXR), cell_drew (cell_set2 o0 hOR), cell_drew (cell_set2 o1 hOR), cell_drew (cell_set2 o2 hOR)⟩
      | with_reducible exact ⟨cell_set2 x0 hXR, cell_set2 x1 hXR, cell_set2 o0 hOR, cell_set2 o1 hOR, cell_set2 o2 hOR⟩)
    (fail)
  all_goals go_wp2
  all_goals refine bodyPost_ret (v := .tuple #[.agg #[.slice D W.rows.length d, .slice (some ⟨S, 0, none⟩) W.ss.length cap], .agg #[.int .i64 1, .string ⟨#[]⟩, .int .i64 0]]) (by simp [results, Tryd.results53, go_sem, r0, r1, b0, b1, b2]) rfl ?_
  all_goals exact did_fin (s' := { W.ss[i] with wr := plusL W.ss[i].wr key val }) HH.out hb hi H6.out.bel (HH.out.rows.step H6.out.bel) (HS.out.core.l1.step H6.out.bel) (HS.out.core.l2.step H6.out.bel) (HS.out.core.l3.step H6.out.bel) (own_lst HO.out (plus_sizes (n := 0) ((worldOk_sz HW.out).li i 3 hi (by omega)) hkz hvz).1 (plus_sizes (n := 0) ((worldOk_sz HW.out).li i 3 hi (by omega)) hkz hvz).2) (old_inP HH.out.rows HH.out.rin) (old_inP HS.out.core.l1 HS.out.p1) (old_inP HS.out.core.l2 HS.out.p2) (old_inP HS.out.core.l3 HS.out.p3) (new_inP hSw HA8.out.size HO.out) H7.out (.slice D W.rows.length d) (.slice (some ⟨S, 0, none⟩) W.ss.length cap) (.int .i64 1) (.string ⟨#[]⟩) (.int .i64 0) (by rfl) ⟨by rfl, by rfl, by rfl⟩ ok'

set_option maxHeartbeats 4000000 in
theorem did_put_row_new (base S cap : Nat) (r : Value) (W : Wd) (i : Nat) (key val : ByteArray) (w : World) (h : RefW w base S cap r W) (hw : WorldOk W) (hb : base ≤ w.heap.size) (hi : i < W.ss.length) (hkz : key.size ≤ 8) (hvz : val.size ≤ 60) (hst : W.ss[i].st ≠ 2) (hh : heldB W.ss i key = false) (hf : atL (allL W) key = none) (h100 : (allL W).length < 100) (h1 : W.ss[i].st ≠ 1) :
    Calls Tryd.prog 53 #[.agg #[r, slc S W.ss.length cap], .int .i64 i, .agg #[.int .i64 10, .string key, .string val]] w (DidPost w base S cap W.ss.length (⟨plusL W.rows key val, W.ss.set i W.ss[i]⟩, ok')) := by
  obtain ⟨v1, v2, v3, v4, hs⟩ := h.ses i hi
  obtain ⟨D, d, rfl, hd⟩ := h.rows.form
  obtain ⟨A1, n1, rfl, _⟩ := hs.core.l1.form
  obtain ⟨A2, n2, rfl, _⟩ := hs.core.l2.form
  obtain ⟨A3, n3, rfl, _⟩ := hs.core.l3.form
  obtain ⟨A4, n4, rfl, _⟩ := hs.core.l4.form
  have H0 := Lib.hid (didAt0 w (.slice D W.rows.length d) (.slice (some ⟨S, 0, none⟩) W.ss.length cap) 10 key val W.ss[i].st (.slice A1 W.ss[i].set.length n1) (.slice A2 W.ss[i].prep.length n2) (.slice A3 W.ss[i].sav.length n3) (.slice A4 W.ss[i].wr.length n4))
  have hSw := h.blk.lt
  have bel0 := (doAt0 w (.slice D W.rows.length d) (.slice (some ⟨S, 0, none⟩) W.ss.length cap) 10 key val).bel
  have c0 := (bel0.cell (p := ⟨S, i * 5, none⟩) hSw).trans hs.core.c0
  have c1 := (bel0.cell (p := ⟨S, i * 5 + 1, none⟩) hSw).trans hs.core.c1
  have c2 := (bel0.cell (p := ⟨S, i * 5 + 2, none⟩) hSw).trans hs.core.c2
  have c3 := (bel0.cell (p := ⟨S, i * 5 + 3, none⟩) hSw).trans hs.core.c3
  have c4 := (bel0.cell (p := ⟨S, i * 5 + 4, none⟩) hSw).trans hs.core.c4
  unfold doW0 at c0 c1 c2 c3 c4
  clear bel0
  have hii : (i : Int) < (W.ss.length : Int) := by omega
  have HH := Lib.hid h
  have HS := Lib.hid hs
  have HW := Lib.hid hw
  have t0 : (W.ss[i].st == 2) = false := beq_eq_false_iff_ne.2 hst
  have t1 : (W.ss[i].st == 1) = false := beq_eq_false_iff_ne.2 h1
  have t2 : decide ((100 : Int) ≤ ((allL W).length : Int)) = false := decide_eq_false (by omega)
  have HHd := Lib.hid hh
  have HF := Lib.hid hf
  clear h hs hw hst hh hf h1
  unfold slc
  go_enter Tryd.func53, Tryd.ntmps53
  go_wp2_with fail
  have HW0 := Lib.hid ((HH.out.below H0.out.bel).wld)
  unfold slc at HW0
  refine (isHeld_any _ _ W i key _ HW0.out).mono ?_
  rw [HHd.out]
  rintro e W5 ⟨rfl, hb5⟩
  have HA := Lib.hid (H0.out.below hb5)
  clear hb5 HW0 H0 c0 c1 c2 c3 c4
  have y1 := HA.out.Y.cell (j := 1) (by simp)
  have y2 := HA.out.Y.cell (j := 2) (by simp)
  have x0 := HA.out.X.cell (j := 0) (by simp)
  have x1 := HA.out.X.cell (j := 1) (by simp)
  have z0 := HA.out.Z.cell (j := 0) (by simp)
  have z1 := HA.out.Z.cell (j := 1) (by simp)
  have z2 := HA.out.Z.cell (j := 2) (by simp)
  have z3 := HA.out.Z.cell (j := 3) (by simp)
  have z4 := HA.out.Z.cell (j := 4) (by simp)
  simp only [List.getElem_cons_zero, List.getElem_cons_succ] at y1 y2 x0 x1 z0 z1 z2 z3 z4
  go_wp2_with fail
  have hX5 := HA.out.X.lt
  have hY5 := HA.out.Y.lt
  have BW := Lib.hid HA.out.bel
  have kb := Below.refl W5.heap.size W5
  have HSd := Lib.hid (show W5.drew.cell? ⟨w.heap.size, 0, none⟩ = some (.slice D W.rows.length d) ∧ W5.drew.cell? ⟨w.heap.size, 1, none⟩ = some (.slice (some ⟨S, 0, none⟩) W.ss.length cap) ∧ W5.drew.cell? ⟨w.heap.size + 1, 1, none⟩ = some (.string key) from ⟨x0, x1, y1⟩)
  go_region_held3 (fun wx => wx.cell? ⟨w.heap.size, 0, none⟩ = some (.slice D W.rows.length d) ∧ wx.cell? ⟨w.heap.size, 1, none⟩ = some (.slice (some ⟨S, 0, none⟩) W.ss.length cap) ∧ wx.cell? ⟨w.heap.size + 1, 1, none⟩ = some (.string key))
    (first
      | with_reducible exact ⟨x0, x1, y1⟩
      | with_reducible exact HSd.out
      | with_reducible exact ⟨(kb.cell (p := ⟨w.heap.size, 0, none⟩) hX5).trans x0, (kb.cell (p := ⟨w.heap.size, 1, none⟩) hX5).trans x1, (kb.cell (p := ⟨w.heap.size + 1, 1, none⟩) hY5).trans y1⟩
      | with_reducible exact ⟨cell_drew ((kb.cell (p := ⟨w.heap.size, 0, none⟩) hX5).trans x0), cell_drew ((kb.cell (p := ⟨w.heap.size, 1, none⟩) hX5).trans x1), cell_drew ((kb.cell (p := ⟨w.heap.size + 1, 1, none⟩) hY5).trans y1)⟩)
    (first
      | (
        go_at_call 49
        refine (allRows_any _ _ W _ (by first | exact (HH.out.below bel_add' BW.out kb BW.out.size).wld | exact (HH.out.below (bel_add' BW.out kb BW.out.size).drew).wld | exact (HH.out.below (below_drewN (bel_add' BW.out kb BW.out.size) _)).wld) (pairsB_rising HW.out.rows).2.1 HW.out.many (fun i hi => (pairsB_rising (HW.out.sess i hi).wr).2.1)).mono ?_
        rintro e w6 ⟨v6, rfl, ho, hy⟩
        obtain ⟨A6, c6, rfl⟩ := own_form ho
        have kb : Below W5.heap.size W5 w6 := by first | exact hy | exact bel_addN kb hy kb.size | exact bel_add kb hy kb.size
        have HO := Lib.hid (own_lst ho (all_sizes HW.out).1 (all_sizes HW.out).2))
      | (
        go_at_call 63
        refine (at_any _ (allL W) key _ _ (by first | exact HO.out | exact HO.out.drew | exact HO.out.drewN _)).mono ?_
        rw [HF.out, atV_none]
        rintro e w7 ⟨rfl, hw7⟩
        have kb : Below W5.heap.size W5 w7 := by rw [← hw7]; first | exact kb | exact kb.drew | exact below_drewN kb _
        clear hw7))
  go_wp2_with fail
  have HA7 := Lib.hid (HA.out.below kb)
  refine (allRows_any _ _ W _ (HH.out.below HA7.out.bel).wld (pairsB_rising HW.out.rows).2.1 HW.out.many (fun i hi => (pairsB_rising (HW.out.sess i hi).wr).2.1)).mono ?_
  rintro e w8 ⟨v8, rfl, ho8, hy8⟩
  obtain ⟨A8, c8, rfl⟩ := own_form ho8
  have HA8 := Lib.hid (HA7.out.below hy8)
  clear ho8 hy8 HA7 kb HO HA x0 x1 y1 y2 z0 z1 z2 z3 z4 BW HSd
  have y1 := HA8.out.Y.cell (j := 1) (by simp)
  have y2 := HA8.out.Y.cell (j := 2) (by simp)
  have x0 := HA8.out.X.cell (j := 0) (by simp)
  have x1 := HA8.out.X.cell (j := 1) (by simp)
  have z0 := HA8.out.Z.cell (j := 0) (by simp)
  have z1 := HA8.out.Z.cell (j := 1) (by simp)
  have z2 := HA8.out.Z.cell (j := 2) (by simp)
  have z3 := HA8.out.Z.cell (j := 3) (by simp)
  have z4 := HA8.out.Z.cell (j := 4) (by simp)
  simp only [List.getElem_cons_zero, List.getElem_cons_succ] at y1 y2 x0 x1 z0 z1 z2 z3 z4
  go_wp2_with fail
  refine (plus_any _ W.rows key val _ (HH.out.rows.step HA8.out.bel)).mono ?_
  rintro e w9 ⟨v9, rfl, ho, hy⟩
  obtain ⟨A6, c6, rfl⟩ := own_form ho
  have h6 := HA8.out.below hy
  clear y1 y2 z0 z1 z2 z3 z4 x0 x1
  have x0 := h6.X.cell (j := 0) (by simp)
  have x1 := h6.X.cell (j := 1) (by simp)
  have xf0 := h6.X.frozen 0
  have xf1 := h6.X.frozen 1
  have z0 := h6.Z.cell (j := 0) (by simp)
  have z1 := h6.Z.cell (j := 1) (by simp)
  have z2 := h6.Z.cell (j := 2) (by simp)
  have z3 := h6.Z.cell (j := 3) (by simp)
  have z4 := h6.Z.cell (j := 4) (by simp)
  have zf0 := h6.Z.frozen 0
  have zf1 := h6.Z.frozen 1
  have zf2 := h6.Z.frozen 2
  have zf3 := h6.Z.frozen 3
  have zf4 := h6.Z.frozen 4
  have o0 := h6.O.cell (j := 0) (by simp)
  have o1 := h6.O.cell (j := 1) (by simp)
  have o2 := h6.O.cell (j := 2) (by simp)
  have r0 := h6.R.cell (j := 0) (by simp)
  have r1 := h6.R.cell (j := 1) (by simp)
  have rf0 := h6.R.frozen 0
  have rf1 := h6.R.frozen 1
  have a0 := h6.A.cell (j := 0) (by simp)
  have a1 := h6.A.cell (j := 1) (by simp)
  have a2 := h6.A.cell (j := 2) (by simp)
  have af0 := h6.A.frozen 0
  have af1 := h6.A.frozen 1
  have af2 := h6.A.frozen 2
  simp only [List.getElem_cons_zero, List.getElem_cons_succ] at x0 x1 z0 z1 z2 z3 z4 o0 o1 o2 r0 r1 a0 a1 a2
  have hS6 := HH.out.blk.below h6.bel hSw
  obtain ⟨y0, d0⟩ := hS6.any (j := i * 5) (by have := HH.out.len; omega)
  have df0 := hS6.frozen (i * 5)
  obtain ⟨y1, d1⟩ := hS6.any (j := i * 5 + 1) (by have := HH.out.len; omega)
  have df1 := hS6.frozen (i * 5 + 1)
  obtain ⟨y2, d2⟩ := hS6.any (j := i * 5 + 2) (by have := HH.out.len; omega)
  have df2 := hS6.frozen (i * 5 + 2)
  obtain ⟨y3, d3⟩ := hS6.any (j := i * 5 + 3) (by have := HH.out.len; omega)
  have df3 := hS6.frozen (i * 5 + 3)
  obtain ⟨y4, d4⟩ := hS6.any (j := i * 5 + 4) (by have := HH.out.len; omega)
  have df4 := hS6.frozen (i * 5 + 4)
  have hw6 := h6.size
  have hSz : S < w9.heap.size := Nat.lt_of_lt_of_le hSw (h6.bel).size
  have HO := Lib.hid ho
  have H6 := Lib.hid h6
  clear ho h6 hy hS6
  go_wp2
  have H7 := Lib.hid (w7_of (cap := cap) (wz := (w9.setCell ⟨w.heap.size, 0, none⟩ (.slice A6 (plusL W.rows key val).length c6))) (i * 5) (.int .i64 W.ss[i].st) (.slice A1 W.ss[i].set.length n1) (.slice A2 W.ss[i].prep.length n2) (.slice A3 W.ss[i].sav.length n3) (.slice A4 W.ss[i].wr.length n4) H6.out hSw (rv := (.slice A6 (plusL W.rows key val).length c6)) (by exact (H6.out.X.put (j := 0) (by simp) (.slice A6 (plusL W.rows key val).length c6))) (fun b h1 h2 => (zset_other b h1)) (by simp [World.setCell]) ⟨rfl, rfl, rfl⟩)
  unfold set5 at H7
  clear x0 x1 xf0 xf1 z0 z1 z2 z3 z4 o0 o1 o2 r0 r1 a0 a1 a2 zf0 zf1 zf2 zf3 zf4 rf0 rf1 af0 af1 af2 d0 d1 d2 d3 d4 df0 df1 df2 df3 df4
  generalize ((((((w9.setCell ⟨w.heap.size, 0, none⟩ (.slice A6 (plusL W.rows key val).length c6)).setCell ⟨S, i * 5, none⟩ (.int .i64 W.ss[i].st)).setCell ⟨S, i * 5 + 1, none⟩ (.slice A1 W.ss[i].set.length n1)).setCell ⟨S, i * 5 + 2, none⟩ (.slice A2 W.ss[i].prep.length n2)).setCell ⟨S, i * 5 + 3, none⟩ (.slice A3 W.ss[i].sav.length n3)).setCell ⟨S, i * 5 + 4, none⟩ (.slice A4 W.ss[i].wr.length n4)) = W7 at *
  have x0 := H7.out.X.cell (j := 0) (by simp)
  have x1 := H7.out.X.cell (j := 1) (by simp)
  have o0 := H7.out.O.cell (j := 0) (by simp)
  have o1 := H7.out.O.cell (j := 1) (by simp)
  have o2 := H7.out.O.cell (j := 2) (by simp)
  have r0 := H7.out.R.cell (j := 0) (by simp)
  have r1 := H7.out.R.cell (j := 1) (by simp)
  have b0 := H7.out.A.cell (j := 0) (by simp)
  have b1 := H7.out.A.cell (j := 1) (by simp)
  have b2 := H7.out.A.cell (j := 2) (by simp)
  have g0 := H7.out.R.frozen 0
  have g1 := H7.out.R.frozen 1
  have k0 := H7.out.A.frozen 0
  have k1 := H7.out.A.frozen 1
  have k2 := H7.out.A.frozen 2
  simp only [List.getElem_cons_zero, List.getElem_cons_succ] at x0 x1 o0 o1 o2 r0 r1 b0 b1 b2
  have hXR : w.heap.size ≠ w.heap.size + 1 + 1 := by omega
  have hXA : w.heap.size ≠ w.heap.size + 1 + 1 + 1 := by omega
  have hOR : w.heap.size + 1 + 1 + 1 + 1 + 1 ≠ w.heap.size + 1 + 1 := by omega
  have hOA : w.heap.size + 1 + 1 + 1 + 1 + 1 ≠ w.heap.size + 1 + 1 + 1 := by omega
  have HSd := Lib.hid (show W7.drew.cell? ⟨w.heap.size, 0, none⟩ = some (.slice A6 (plusL W.rows key val).length c6) ∧ W7.drew.cell? ⟨w.heap.size, 1, none⟩ = some (.slice (some ⟨S, 0, none⟩) W.ss.length cap) ∧ W7.drew.cell? ⟨w.heap.size + 1 + 1 + 1 + 1 + 1, 0, none⟩ = some (.int .i64 1) ∧ W7.drew.cell? ⟨w.heap.size + 1 + 1 + 1 + 1 + 1, 1, none⟩ = some (.string ⟨#[]⟩) ∧ W7.drew.cell? ⟨w.heap.size + 1 + 1 + 1 + 1 + 1, 2, none⟩ = some (.int .i64 0) from ⟨x0, x1, o0, o1, o2⟩)
  go_region_held3 (fun wx => wx.cell? ⟨w.heap.size, 0, none⟩ = some (.slice A6 (plusL W.rows key val).length c6) ∧ wx.cell? ⟨w.heap.size, 1, none⟩ = some (.slice (some ⟨S, 0, none⟩) W.ss.length cap) ∧ wx.cell? ⟨w.heap.size + 1 + 1 + 1 + 1 + 1, 0, none⟩ = some (.int .i64 1) ∧ wx.cell? ⟨w.heap.size + 1 + 1 + 1 + 1 + 1, 1, none⟩ = some (.string ⟨#[]⟩) ∧ wx.cell? ⟨w.heap.size + 1 + 1 + 1 + 1 + 1, 2, none⟩ = some (.int .i64 0))
    (first
      | with_reducible exact ⟨x0, x1, o0, o1, o2⟩
      | with_reducible exact HSd.out
      | with_reducible exact ⟨cell_set3 (cell_set2 x0 hXR) hXA, cell_set3 (cell_set2 x1 hXR) hXA, cell_set3 (cell_set2 o0 hOR) hOA, cell_set3 (cell_set2 o1 hOR) hOA, cell_set3 (cell_set2 o2 hOR) hOA⟩
      | with_reducible exact ⟨cell_drew (cell_set3 (cell_set2 x0 hXR) hXA), cell_drew (cell_set3 (cell_set2 x1 hXR) hXA), cell_drew (cell_set3 (cell_set2 o0 hOR) hOA), cell_drew (cell_set3 (cell_set2 o1 hOR) hOA), cell_drew (cell_set3 (cell_set2 o2 hOR) hOA)⟩
      | with_reducible exact ⟨cell_drew (cell_set2 x0 hXR), cell_drew (cell_set2 x1 hXR), cell_drew (cell_set2 o0 hOR), cell_drew (cell_set2 o1 hOR), cell_drew (cell_set2 o2 hOR)⟩
      | with_reducible exact ⟨cell_set2 x0 hXR, cell_set2 x1 hXR, cell_set2 o0 hOR, cell_set2 o1 hOR, cell_set2 o2 hOR⟩)
    (fail)
  all_goals go_wp2
  all_goals refine bodyPost_ret (v := .tuple #[.agg #[.slice A6 (plusL W.rows key val).length c6, .slice (some ⟨S, 0, none⟩) W.ss.length cap], .agg #[.int .i64 1, .string ⟨#[]⟩, .int .i64 0]]) (by simp [results, Tryd.results53, go_sem, r0, r1, b0, b1, b2]) rfl ?_
  all_goals exact did_fin (s' := W.ss[i]) HH.out hb hi H6.out.bel (own_lst HO.out (plus_sizes (n := 0) (worldOk_sz HW.out).rows hkz hvz).1 (plus_sizes (n := 0) (worldOk_sz HW.out).rows hkz hvz).2) (HS.out.core.l1.step H6.out.bel) (HS.out.core.l2.step H6.out.bel) (HS.out.core.l3.step H6.out.bel) (HS.out.core.l4.step H6.out.bel) (new_inP hSw HA8.out.size HO.out) (old_inP HS.out.core.l1 HS.out.p1) (old_inP HS.out.core.l2 HS.out.p2) (old_inP HS.out.core.l3 HS.out.p3) (old_inP HS.out.core.l4 HS.out.p4) H7.out (.slice A6 (plusL W.rows key val).length c6) (.slice (some ⟨S, 0, none⟩) W.ss.length cap) (.int .i64 1) (.string ⟨#[]⟩) (.int .i64 0) (by rfl) ⟨by rfl, by rfl, by rfl⟩ ok'
end Go.Proofs.YtpbaobmegomfpabDoor

/-
  The reference's did: Commit.
-/
namespace Go.Proofs.YtpbaobmegomfpabDoor
open Go.RowKit
set_option linter.unusedVariables false
set_option linter.unusedSimpArgs false
set_option maxRecDepth 100000

theorem rplusF_len (l R : PL) : (plusF R l).length ≤ R.length + l.length := by
  induction l generalizing R with
  | nil => simp [plusF]
  | cons p l ih =>
    have := ih (plusL R p.1 p.2)
    have h2 := plusL_len R p.1 p.2
    have e : plusF R (p :: l) = plusF (plusL R p.1 p.2) l := rfl
    rw [e, List.length_cons]
    omega
theorem rplusF_step {R l : PL} {j : Nat} (h : j < l.length) : plusF R (l.take (j + 1)) = plusL (plusF R (l.take j)) l[j].1 l[j].2 := by
  rw [List.take_succ_eq_append_getElem h]
  unfold plusF
  rw [List.foldl_append]
  rfl
theorem plusF_sizes {R l : PL} (hR : Sz60 R) (hl : Sz60 l) (j : Nat) : (plusF R (l.take j)).length * 32 ≤ 140737488351232 ∧ ∀ p ∈ plusF R (l.take j), p.1.size ≤ 140737488351232 ∧ p.2.size ≤ 140737488351232 := by
  refine ⟨?_, fun p hp => ?_⟩
  · have h1 := rplusF_len (l.take j) R
    have h2 := hR.1
    have h3 := hl.1
    rw [List.length_take] at h1
    omega
  · rcases Go.Proofs.YtpbaobmegomfpabDoor.plusF_mem hp with h | h
    · have := hR.2 p h; omega
    · have := hl.2 p (List.mem_of_mem_take h); omega
/-- the commit's loop -/
structure RComRel (w wr : World) (S cap : Nat) (W : Wd) (i : Nat) (hi : i < W.ss.length) (key val : ByteArray) (v1 v2 v3 v4 : Value) (j : Nat) : Prop where
  ex : ∃ A c, DidAt w wr (.slice A (plusF W.rows (W.ss[i].wr.take j)).length c) (.slice (some ⟨S, 0, none⟩) W.ss.length cap) 2 key val W.ss[i].st v1 v2 v3 v4 ∧ Lst wr wr.heap.size (.slice A (plusF W.rows (W.ss[i].wr.take j)).length c) (plusF W.rows (W.ss[i].wr.take j)) ∧
    InP (fun b => b ≠ S ∧ (b < w.heap.size ∨ w.heap.size + 1 + 1 + 1 + 1 + 1 + 1 ≤ b)) (.slice A (plusF W.rows (W.ss[i].wr.take j)).length c) (plusF W.rows (W.ss[i].wr.take j))

set_option maxHeartbeats 4000000 in
theorem did_commit (base S cap : Nat) (r : Value) (W : Wd) (i : Nat) (key val : ByteArray) (w : World) (h : RefW w base S cap r W) (hw : WorldOk W) (hb : base ≤ w.heap.size) (hi : i < W.ss.length) (hkz : key.size ≤ 8) (hvz : val.size ≤ 60) (h1 : W.ss[i].st = 1) :
    Calls Tryd.prog 53 #[.agg #[r, slc S W.ss.length cap], .int .i64 i, .agg #[.int .i64 2, .string key, .string val]] w (DidPost w base S cap W.ss.length (⟨plusF W.rows W.ss[i].wr, W.ss.set i { W.ss[i] with st := 0, sav := [], wr := [] }⟩, ok')) := by
  obtain ⟨v1, v2, v3, v4, hs⟩ := h.ses i hi
  obtain ⟨D, d, rfl, hd⟩ := h.rows.form
  obtain ⟨A1, n1, rfl, _⟩ := hs.core.l1.form
  obtain ⟨A2, n2, rfl, _⟩ := hs.core.l2.form
  obtain ⟨A3, n3, rfl, _⟩ := hs.core.l3.form
  obtain ⟨A4, n4, rfl, _⟩ := hs.core.l4.form
  have H0 := Lib.hid (didAt0 w (.slice D W.rows.length d) (.slice (some ⟨S, 0, none⟩) W.ss.length cap) 2 key val W.ss[i].st (.slice A1 W.ss[i].set.length n1) (.slice A2 W.ss[i].prep.length n2) (.slice A3 W.ss[i].sav.length n3) (.slice A4 W.ss[i].wr.length n4))
  have hSw := h.blk.lt
  have bel0 := (doAt0 w (.slice D W.rows.length d) (.slice (some ⟨S, 0, none⟩) W.ss.length cap) 2 key val).bel
  have c0 := (bel0.cell (p := ⟨S, i * 5, none⟩) hSw).trans hs.core.c0
  have c1 := (bel0.cell (p := ⟨S, i * 5 + 1, none⟩) hSw).trans hs.core.c1
  have c2 := (bel0.cell (p := ⟨S, i * 5 + 2, none⟩) hSw).trans hs.core.c2
  have c3 := (bel0.cell (p := ⟨S, i * 5 + 3, none⟩) hSw).trans hs.core.c3
  have c4 := (bel0.cell (p := ⟨S, i * 5 + 4, none⟩) hSw).trans hs.core.c4
  unfold doW0 at c0 c1 c2 c3 c4
  clear bel0
  have hii : (i : Int) < (W.ss.length : Int) := by omega
  have HH := Lib.hid h
  have HS := Lib.hid hs
  have HW := Lib.hid hw
  have t0 : (W.ss[i].st == 2) = false := beq_eq_false_iff_ne.2 (by omega)
  have t1 : (W.ss[i].st == 0) = false := beq_eq_false_iff_ne.2 (by omega)
  have t2 : (W.ss[i].st == 1) = true := beq_iff_eq.2 h1
  have HT := Lib.hid h1
  clear h hs hw h1
  unfold slc
  go_enter Tryd.func53, Tryd.ntmps53
  go_wp2
  have hn100 : W.ss[i].wr.length ≤ 100 := (pairsB_rising (HW.out.sess i hi).wr).2.1
  go_loopw [11] (fun kv wr => ∃ j : Nat, j ≤ W.ss[i].wr.length ∧ kv = .int .i64 j ∧ RComRel w wr S cap W i hi key val (.slice A1 W.ss[i].set.length n1) (.slice A2 W.ss[i].prep.length n2) (.slice A3 W.ss[i].sav.length n3) (.slice A4 W.ss[i].wr.length n4) j) (fun kv _ => W.ss[i].wr.length - (intOf kv).toNat)
  case atStart =>
    refine ⟨0, by omega, rfl, D, d, ?_, ?_, ?_⟩
    · have h0 := H0.out
      unfold didW0 doW0 at h0
      exact h0
    · have h0 := HH.out.rows.step H0.out.bel
      unfold didW0 doW0 at h0
      exact h0
    · exact old_inP HH.out.rows HH.out.rin
  case round =>
    obtain ⟨j, hj, rfl, A, c, hA, hL, hI⟩ := hrel
    by_cases hlt : j < W.ss[i].wr.length
    · have HS4 := HS.out.core.l4.step hA.bel
      obtain ⟨b, off, hA4, hb, e0, e1⟩ := HS4.pt hlt
      subst hA4
      have x0 := hA.X.cell (j := 0) (by simp)
      have z4 := hA.Z.cell (j := 4) (by simp)
      simp only [List.getElem_cons_zero, List.getElem_cons_succ] at x0 z4
      have HA := Lib.hid hA
      have HL := Lib.hid hL
      clear hA hL hI HS4
      have hjn : (j : Int) < (W.ss[i].wr.length : Int) := by omega
      go_wp2_with fail
      go_still_tail 14, (by kernel_rfl)
      change wpList _ _ _ _ _ wr.drew
      have HA2 := Lib.hid (HA.out.below ((Below.refl wr.heap.size wr).drew))
      have HL2 := Lib.hid (HL.out.step ((Below.refl wr.heap.size wr).drew))
      clear HA HL x0 z4 e0 e1
      generalize wr.drew = w2 at *
      go_wp2_with fail
      refine (plus_any _ (plusF W.rows (W.ss[i].wr.take j)) W.ss[i].wr[j].1 W.ss[i].wr[j].2 _ HL2.out).mono ?_
      rintro e w6 ⟨v6, rfl, ho, hy⟩
      obtain ⟨A6, c6, rfl⟩ := own_form ho
      have h6 := HA2.out.below hy
      have x0 := h6.X.cell (j := 0) (by simp)
      have xf0 := h6.X.frozen 0
      simp only [List.getElem_cons_zero, List.getElem_cons_succ] at x0
      have HO := Lib.hid ho
      have H6 := Lib.hid h6
      have HP := Lib.hid (rplusF_step (R := W.rows) hlt)
      clear ho h6 hy
      go_wp2
      go_roundw
      case rel =>
        refine ⟨j + 1, by omega, by go_num, A6, c6, ?_, ?_, ?_⟩
        · rw [HP.out]
          have h6 := H6.out
          refine ⟨h6.X.put (j := 0) (by simp) _, h6.Y.other (by show w.heap.size ≠ _; omega) _, h6.R.other (by show w.heap.size ≠ _; omega) _, h6.A.other (by show w.heap.size ≠ _; omega) _, h6.Z.other (by show w.heap.size ≠ _; omega) _, h6.O.other (by show w.heap.size ≠ _; omega) _, h6.bel.setCell (Nat.le_refl _) _, by have := h6.size; simpa [World.setCell] using this⟩
        · have hsz := plusF_sizes (worldOk_sz HW.out).rows ((worldOk_sz HW.out).li i 3 hi (by omega)) (j + 1)
          have hsz' : (plusF W.rows (W.ss[i].wr.take (j + 1))).length * 32 ≤ 140737488351232 ∧ ∀ p ∈ plusF W.rows (W.ss[i].wr.take (j + 1)), p.1.size ≤ 140737488351232 ∧ p.2.size ≤ 140737488351232 := hsz
          rw [HP.out] at hsz' ⊢
          have hl := own_lst HO.out hsz'.1 hsz'.2
          refine hl.keepP (own_inP HO.out) (fun b hb => Below.heap_setCell _ _ _ _ (by show b ≠ w.heap.size; have := HA2.out.size; omega)) (fun b hb => by have := hb.2; simpa [World.setCell] using this)
        · rw [HP.out]
          exact (own_inP HO.out).mono fun b hb => by have := HA2.out.size; have := hb.1; exact ⟨by omega, .inr (by omega)⟩
      case measure => simp [intOf]; omega
    · obtain rfl : j = W.ss[i].wr.length := by omega
      rw [List.take_length] at hA hL hI
      have h6 := hA
      have x0 := h6.X.cell (j := 0) (by simp)
      have x1 := h6.X.cell (j := 1) (by simp)
      have xf0 := h6.X.frozen 0
      have xf1 := h6.X.frozen 1
      have z0 := h6.Z.cell (j := 0) (by simp)
      have z1 := h6.Z.cell (j := 1) (by simp)
      have z2 := h6.Z.cell (j := 2) (by simp)
      have z3 := h6.Z.cell (j := 3) (by simp)
      have z4 := h6.Z.cell (j := 4) (by simp)
      have zf0 := h6.Z.frozen 0
      have zf1 := h6.Z.frozen 1
      have zf2 := h6.Z.frozen 2
      have zf3 := h6.Z.frozen 3
      have zf4 := h6.Z.frozen 4
      have o0 := h6.O.cell (j := 0) (by simp)
      have o1 := h6.O.cell (j := 1) (by simp)
      have o2 := h6.O.cell (j := 2) (by simp)
      have r0 := h6.R.cell (j := 0) (by simp)
      have r1 := h6.R.cell (j := 1) (by simp)
      have rf0 := h6.R.frozen 0
      have rf1 := h6.R.frozen 1
      have a0 := h6.A.cell (j := 0) (by simp)
      have a1 := h6.A.cell (j := 1) (by simp)
      have a2 := h6.A.cell (j := 2) (by simp)
      have af0 := h6.A.frozen 0
      have af1 := h6.A.frozen 1
      have af2 := h6.A.frozen 2
      simp only [List.getElem_cons_zero, List.getElem_cons_succ] at x0 x1 z0 z1 z2 z3 z4 o0 o1 o2 r0 r1 a0 a1 a2
      have hS6 := HH.out.blk.below h6.bel hSw
      obtain ⟨y0, d0⟩ := hS6.any (j := i * 5) (by have := HH.out.len; omega)
      have df0 := hS6.frozen (i * 5)
      obtain ⟨y1, d1⟩ := hS6.any (j := i * 5 + 1) (by have := HH.out.len; omega)
      have df1 := hS6.frozen (i * 5 + 1)
      obtain ⟨y2, d2⟩ := hS6.any (j := i * 5 + 2) (by have := HH.out.len; omega)
      have df2 := hS6.frozen (i * 5 + 2)
      obtain ⟨y3, d3⟩ := hS6.any (j := i * 5 + 3) (by have := HH.out.len; omega)
      have df3 := hS6.frozen (i * 5 + 3)
      obtain ⟨y4, d4⟩ := hS6.any (j := i * 5 + 4) (by have := HH.out.len; omega)
      have df4 := hS6.frozen (i * 5 + 4)
      have hw6 := h6.size
      have hSz : S < wr.heap.size := Nat.lt_of_lt_of_le hSw (h6.bel).size
      have H6 := Lib.hid h6
      have HL := Lib.hid hL
      have HI := Lib.hid hI
      clear h6 hA hL hI hS6
      go_wp2
      have H7 := Lib.hid (w7_of (cap := cap) (wz := (((wr.setCell ⟨w.heap.size + 1 + 1 + 1 + 1, 0, none⟩ (.int .i64 0)).setCell ⟨w.heap.size + 1 + 1 + 1 + 1, 3, none⟩ (.slice none 0 0)).setCell ⟨w.heap.size + 1 + 1 + 1 + 1, 4, none⟩ (.slice none 0 0))) (i * 5) (.int .i64 0) (.slice A1 W.ss[i].set.length n1) (.slice A2 W.ss[i].prep.length n2) (.slice none 0 0) (.slice none 0 0) H6.out hSw (rv := (.slice A (plusF W.rows W.ss[i].wr).length c)) (by exact (((H6.out.X.other (p := ⟨w.heap.size + 1 + 1 + 1 + 1, 0, none⟩) (by show w.heap.size + 1 + 1 + 1 + 1 ≠ w.heap.size; omega) (.int .i64 0)).other (p := ⟨w.heap.size + 1 + 1 + 1 + 1, 3, none⟩) (by show w.heap.size + 1 + 1 + 1 + 1 ≠ w.heap.size; omega) (.slice none 0 0)).other (p := ⟨w.heap.size + 1 + 1 + 1 + 1, 4, none⟩) (by show w.heap.size + 1 + 1 + 1 + 1 ≠ w.heap.size; omega) (.slice none 0 0))) (fun b h1 h2 => (zset_other b h2).trans ((zset_other b h2).trans (zset_other b h2))) (by simp [World.setCell]) ⟨rfl, rfl, rfl⟩)
      unfold set5 at H7
      clear x0 x1 xf0 xf1 z0 z1 z2 z3 z4 o0 o1 o2 r0 r1 a0 a1 a2 zf0 zf1 zf2 zf3 zf4 rf0 rf1 af0 af1 af2 d0 d1 d2 d3 d4 df0 df1 df2 df3 df4
      generalize ((((((((wr.setCell ⟨w.heap.size + 1 + 1 + 1 + 1, 0, none⟩ (.int .i64 0)).setCell ⟨w.heap.size + 1 + 1 + 1 + 1, 3, none⟩ (.slice none 0 0)).setCell ⟨w.heap.size + 1 + 1 + 1 + 1, 4, none⟩ (.slice none 0 0)).setCell ⟨S, i * 5, none⟩ (.int .i64 0)).setCell ⟨S, i * 5 + 1, none⟩ (.slice A1 W.ss[i].set.length n1)).setCell ⟨S, i * 5 + 2, none⟩ (.slice A2 W.ss[i].prep.length n2)).setCell ⟨S, i * 5 + 3, none⟩ (.slice none 0 0)).setCell ⟨S, i * 5 + 4, none⟩ (.slice none 0 0)) = W7 at *
      have x0 := H7.out.X.cell (j := 0) (by simp)
      have x1 := H7.out.X.cell (j := 1) (by simp)
      have o0 := H7.out.O.cell (j := 0) (by simp)
      have o1 := H7.out.O.cell (j := 1) (by simp)
      have o2 := H7.out.O.cell (j := 2) (by simp)
      have r0 := H7.out.R.cell (j := 0) (by simp)
      have r1 := H7.out.R.cell (j := 1) (by simp)
      have b0 := H7.out.A.cell (j := 0) (by simp)
      have b1 := H7.out.A.cell (j := 1) (by simp)
      have b2 := H7.out.A.cell (j := 2) (by simp)
      have g0 := H7.out.R.frozen 0
      have g1 := H7.out.R.frozen 1
      have k0 := H7.out.A.frozen 0
      have k1 := H7.out.A.frozen 1
      have k2 := H7.out.A.frozen 2
      simp only [List.getElem_cons_zero, List.getElem_cons_succ] at x0 x1 o0 o1 o2 r0 r1 b0 b1 b2
      have hXR : w.heap.size ≠ w.heap.size + 1 + 1 := by omega
      have hXA : w.heap.size ≠ w.heap.size + 1 + 1 + 1 := by omega
      have hOR : w.heap.size + 1 + 1 + 1 + 1 + 1 ≠ w.heap.size + 1 + 1 := by omega
      have hOA : w.heap.size + 1 + 1 + 1 + 1 + 1 ≠ w.heap.size + 1 + 1 + 1 := by omega
      have HSd := Lib.hid (show W7.drew.cell? ⟨w.heap.size, 0, none⟩ = some (.slice A (plusF W.rows W.ss[i].wr).length c) ∧ W7.drew.cell? ⟨w.heap.size, 1, none⟩ = some (.slice (some ⟨S, 0, none⟩) W.ss.length cap) ∧ W7.drew.cell? ⟨w.heap.size + 1 + 1 + 1 + 1 + 1, 0, none⟩ = some (.int .i64 1) ∧ W7.drew.cell? ⟨w.heap.size + 1 + 1 + 1 + 1 + 1, 1, none⟩ = some (.string ⟨#[]⟩) ∧ W7.drew.cell? ⟨w.heap.size + 1 + 1 + 1 + 1 + 1, 2, none⟩ = some (.int .i64 0) from ⟨x0, x1, o0, o1, o2⟩)
      go_region_held3 (fun wx => wx.cell? ⟨w.heap.size, 0, none⟩ = some (.slice A (plusF W.rows W.ss[i].wr).length c) ∧ wx.cell? ⟨w.heap.size, 1, none⟩ = some (.slice (some ⟨S, 0, none⟩) W.ss.length cap) ∧ wx.cell? ⟨w.heap.size + 1 + 1 + 1 + 1 + 1, 0, none⟩ = some (.int .i64 1) ∧ wx.cell? ⟨w.heap.size + 1 + 1 + 1 + 1 + 1, 1, none⟩ = some (.string ⟨#[]⟩) ∧ wx.cell? ⟨w.heap.size + 1 + 1 + 1 + 1 + 1, 2, none⟩ = some (.int .i64 0))
        (first
          | with_reducible exact ⟨x0, x1, o0, o1, o2⟩
          | with_reducible exact HSd.out
          | with_reducible exact ⟨cell_set3 (cell_set2 x0 hXR) hXA, cell_set3 (cell_set2 x1 hXR) hXA, cell_set3 (cell_set2 o0 hOR) hOA, cell_set3 (cell_set2 o1 hOR) hOA, cell_set3 (cell_set2 o2 hOR) hOA⟩
          | with_reducible exact ⟨cell_drew (cell_set3 (cell_set2 x0 hXR) hXA), cell_drew (cell_set3 (cell_set2 x1 hXR) hXA), cell_drew (cell_set3 (cell_set2 o0 hOR) hOA), cell_drew (cell_set3 (cell_set2 o1 hOR) hOA), cell_drew (cell_set3 (cell_set2 o2 hOR) hOA)⟩
          | with_reducible exact ⟨cell_drew (cell_set2 x0 hXR), cell_drew (cell_set2 x1 hXR), cell_drew (cell_set2 o0 hOR), cell_drew (cell_set2 o1 hOR), cell_drew (cell_set2 o2 hOR)⟩
          | with_reducible exact ⟨cell_set2 x0 hXR, cell_set2 x1 hXR, cell_set2 o0 hOR, cell_set2 o1 hOR, cell_set2 o2 hOR⟩)
        (fail)
      all_goals go_wp2
      all_goals refine bodyPost_ret (v := .tuple #[.agg #[.slice A (plusF W.rows W.ss[i].wr).length c, .slice (some ⟨S, 0, none⟩) W.ss.length cap], .agg #[.int .i64 1, .string ⟨#[]⟩, .int .i64 0]]) (by simp [results, Tryd.results53, go_sem, r0, r1, b0, b1, b2]) rfl ?_
      all_goals exact did_fin (s' := { W.ss[i] with st := 0, sav := [], wr := [] }) HH.out hb hi H6.out.bel HL.out (HS.out.core.l1.step H6.out.bel) (HS.out.core.l2.step H6.out.bel) (Lst.none_ _ _) (Lst.none_ _ _) HI.out (old_inP HS.out.core.l1 HS.out.p1) (old_inP HS.out.core.l2 HS.out.p2) (InP.nil_ _ _) (InP.nil_ _ _) H7.out (.slice A (plusF W.rows W.ss[i].wr).length c) (.slice (some ⟨S, 0, none⟩) W.ss.length cap) (.int .i64 1) (.string ⟨#[]⟩) (.int .i64 0) (by rfl) ⟨by rfl, by rfl, by rfl⟩ ok'
end Go.Proofs.YtpbaobmegomfpabDoor

/-
  The reference's did, every kind.
-/
namespace Go.Proofs.YtpbaobmegomfpabDoor
open Go.RowKit
set_option linter.unusedVariables false
set_option linter.unusedSimpArgs false
set_option maxRecDepth 100000

theorem RefW.offN {w w' : World} {base S cap R : Nat} {r : Value} {W : Wd} (h : RefW w base S cap r W) (hS : R ≠ S) (hR : NoTwo w R) (hs : w'.heap.size = w.heap.size) (hk : ∀ b, b ≠ R → w'.heap[b]? = w.heap[b]?) : RefW w' base S cap r W := by
  refine ⟨by rw [hs]; exact h.rows.offN hR hk, h.rin, h.blk.same (hk S (fun e => hS e.symm)), h.len, h.bytes, fun i hi => ?_, h.lo⟩
  obtain ⟨v1, v2, v3, v4, q⟩ := h.ses i hi
  have cs : ∀ j, w'.cell? ⟨S, j, none⟩ = w.cell? ⟨S, j, none⟩ := fun j => World.cell?_of_block (hk S (fun e => hS e.symm))
  rw [hs]
  exact ⟨v1, v2, v3, v4, ⟨(cs _).trans q.core.c0, (cs _).trans q.core.c1, (cs _).trans q.core.c2, (cs _).trans q.core.c3, (cs _).trans q.core.c4, q.core.l1.offN hR hk, q.core.l2.offN hR hk, q.core.l3.offN hR hk, q.core.l4.offN hR hk⟩, q.p1, q.p2, q.p3, q.p4⟩

theorem did_plain (base S cap : Nat) (r : Value) (W : Wd) (i : Nat) (k : Int) (key val : ByteArray) (w : World) (h : RefW w base S cap r W) (hw : WorldOk W) (hb : base ≤ w.heap.size) (hi : i < W.ss.length) (hkz : key.size ≤ 8) (hvz : val.size ≤ 60) (h1 : 1 ≤ k) (h2 : k ≤ 11) (h8 : k ≠ 8) :
    Calls Tryd.prog 53 #[.agg #[r, slc S W.ss.length cap], .int .i64 i, .agg #[.int .i64 k, .string key, .string val]] w (DidPost w base S cap W.ss.length (did1 W i k key val)) := by
  have hs := hw.sess i hi
  have hst3 : W.ss[i].st = 0 ∨ W.ss[i].st = 1 ∨ W.ss[i].st = 2 := by have := hs.lo; have := hs.hi; omega
  have e : did1 W i k key val = did1 W i k key val := rfl
  by_cases hf : W.ss[i].st = 2 ∧ ¬ (k = 2 ∨ k = 3)
  · rw [show did1 W i k key val = (W, no' tFailed) by unfold did1; simp only [getD_at hi]; rw [if_pos hf]]
    exact did_failed base S cap r W i k key val w h hw hb hi hkz hvz hf.1 (by omega) (by omega)
  obtain rfl | rfl | rfl | rfl | rfl | rfl | rfl | rfl | rfl | rfl : k = 1 ∨ k = 2 ∨ k = 3 ∨ k = 4 ∨ k = 5 ∨ k = 6 ∨ k = 7 ∨ k = 9 ∨ k = 10 ∨ k = 11 := by omega
  · have hst : W.ss[i].st ≠ 2 := fun h2 => hf ⟨h2, by omega⟩
    by_cases h0 : W.ss[i].st = 0
    · rw [show did1 W i 1 key val = (W.put i { W.ss[i] with st := 1, sav := W.ss[i].set }, ok') by unfold did1; simp [getD_at hi, h0]]
      exact did_begin base S cap r W i key val w h hw hb hi hkz hvz h0
    · rw [show did1 W i 1 key val = (W, no' tBegun) by unfold did1; simp [getD_at hi, h0, hst]]
      exact did_begun base S cap r W i key val w h hw hb hi hkz hvz hst h0
  · rcases hst3 with h0 | h0 | h0
    · rw [show did1 W i 2 key val = (W, no' tNoTx) by unfold did1; simp [getD_at hi, h0]]
      exact did_noTx_commit base S cap r W i key val w h hw hb hi hkz hvz h0
    · rw [show did1 W i 2 key val = (⟨plusF W.rows W.ss[i].wr, W.ss.set i { W.ss[i] with st := 0, sav := [], wr := [] }⟩, ok') by unfold did1; simp [getD_at hi, h0]]
      exact did_commit base S cap r W i key val w h hw hb hi hkz hvz h0
    · rw [show did1 W i 2 key val = (W.put i { W.ss[i] with st := 0, set := W.ss[i].sav, sav := [], wr := [] }, ok') by unfold did1; simp [getD_at hi, h0]]
      exact did_undo base S cap r W i key val w h hw hb hi hkz hvz h0
  · rcases hst3 with h0 | h0 | h0
    · rw [show did1 W i 3 key val = (W, no' tNoTx) by unfold did1; simp [getD_at hi, h0]]
      exact did_noTx_rollback base S cap r W i key val w h hw hb hi hkz hvz h0
    · rw [show did1 W i 3 key val = (W.put i { W.ss[i] with st := 0, set := W.ss[i].sav, sav := [], wr := [] }, ok') by unfold did1; simp [getD_at hi, h0]]
      exact did_rollback1 base S cap r W i key val w h hw hb hi hkz hvz h0
    · rw [show did1 W i 3 key val = (W.put i { W.ss[i] with st := 0, set := W.ss[i].sav, sav := [], wr := [] }, ok') by unfold did1; simp [getD_at hi, h0]]
      exact did_rollback2 base S cap r W i key val w h hw hb hi hkz hvz h0
  · have hst : W.ss[i].st ≠ 2 := fun h2 => hf ⟨h2, by omega⟩
    by_cases h0 : W.ss[i].st = 0
    · rw [show did1 W i 4 key val = (W.put i { W.ss[i] with set := [], prep := [] }, ok') by unfold did1; simp [getD_at hi, h0]]
      exact did_reset base S cap r W i key val w h hw hb hi hkz hvz h0
    · rw [show did1 W i 4 key val = (W, no' tNotIn) by unfold did1; simp [getD_at hi, h0, hst]]
      exact did_notIn base S cap r W i key val w h hw hb hi hkz hvz hst h0
  · have hst : W.ss[i].st ≠ 2 := fun h2 => hf ⟨h2, by omega⟩
    rw [show did1 W i 5 key val = (W, no' tAsked) by unfold did1; simp [getD_at hi, hst]]
    exact did_fail base S cap r W i key val w h hw hb hi hkz hvz hst
  · have hst : W.ss[i].st ≠ 2 := fun h2 => hf ⟨h2, by omega⟩
    rw [show did1 W i 6 key val = (W, fnd' (atL W.ss[i].set key)) by unfold did1; simp [getD_at hi, hst]]
    exact did_get base S cap r W i key val w h hw hb hi hkz hvz hst
  · have hst : W.ss[i].st ≠ 2 := fun h2 => hf ⟨h2, by omega⟩
    cases ha : atL W.ss[i].wr key with
    | some v =>
      rw [show did1 W i 7 key val = (W, fnd' (some v)) by unfold did1; simp [getD_at hi, hst, ha]]
      exact did_read_own base S cap r W i key val w h hw hb hi hkz hvz v hst ha
    | none =>
      rw [show did1 W i 7 key val = (W, fnd' (atL W.rows key)) by unfold did1; simp [getD_at hi, hst, ha]]
      exact did_read_rows base S cap r W i key val w h hw hb hi hkz hvz hst ha
  · have hst : W.ss[i].st ≠ 2 := fun h2 => hf ⟨h2, by omega⟩
    cases ha : atL W.ss[i].set key with
    | some v =>
      rw [show did1 W i 9 key val = (W.put i { W.ss[i] with set := plusL W.ss[i].set key val }, ok') by unfold did1; simp [getD_at hi, hst, fndL, ha]]
      exact did_set_is base S cap r W i key val w h hw hb hi hkz hvz hst v ha
    | none =>
      by_cases h6 : 6 ≤ W.ss[i].set.length
      · rw [show did1 W i 9 key val = (W, no' tFull) by unfold did1; simp [getD_at hi, hst, fndL, ha, h6]]
        exact did_set_full base S cap r W i key val w h hw hb hi hkz hvz hst (by unfold fndL; rw [ha]; rfl) h6
      · rw [show did1 W i 9 key val = (W.put i { W.ss[i] with set := plusL W.ss[i].set key val }, ok') by unfold did1; simp [getD_at hi, hst, fndL, ha, h6]]
        exact did_set_new base S cap r W i key val w h hw hb hi hkz hvz hst ha (by omega)
  · have hst : W.ss[i].st ≠ 2 := fun h2 => hf ⟨h2, by omega⟩
    cases hh : heldB W.ss i key with
    | true =>
      rw [show did1 W i 10 key val = (W, no' tHeld) by unfold did1; simp [getD_at hi, hst, hh]]
      exact did_put_held base S cap r W i key val w h hw hb hi hkz hvz hst hh
    | false =>
      have hself : W.ss.set i W.ss[i] = W.ss := List.set_getElem_self _
      cases ha : atL (allL W) key with
      | some v =>
        by_cases h1 : W.ss[i].st = 1
        · rw [show did1 W i 10 key val = (W.put i { W.ss[i] with wr := plusL W.ss[i].wr key val }, ok') by unfold did1; simp [getD_at hi, hst, hh, fndL, ha, h1]]
          exact did_put_wr_is base S cap r W i key val w h hw hb hi hkz hvz hst hh v ha h1
        · rw [show did1 W i 10 key val = (⟨plusL W.rows key val, W.ss.set i W.ss[i]⟩, ok') by rw [hself]; unfold did1; simp [getD_at hi, hst, hh, fndL, ha, h1]]
          exact did_put_row_is base S cap r W i key val w h hw hb hi hkz hvz hst hh v ha h1
      | none =>
        by_cases h6 : 100 ≤ (allL W).length
        · rw [show did1 W i 10 key val = (W, no' tFull) by unfold did1; simp [getD_at hi, hst, hh, fndL, ha, h6]]
          exact did_put_full base S cap r W i key val w h hw hb hi hkz hvz hst hh ha h6
        · by_cases h1 : W.ss[i].st = 1
          · rw [show did1 W i 10 key val = (W.put i { W.ss[i] with wr := plusL W.ss[i].wr key val }, ok') by unfold did1; simp [getD_at hi, hst, hh, fndL, ha, h1, h6]]
            exact did_put_wr_new base S cap r W i key val w h hw hb hi hkz hvz hst hh ha (by omega) h1
          · rw [show did1 W i 10 key val = (⟨plusL W.rows key val, W.ss.set i W.ss[i]⟩, ok') by rw [hself]; unfold did1; simp [getD_at hi, hst, hh, fndL, ha, h1, h6]]
            exact did_put_row_new base S cap r W i key val w h hw hb hi hkz hvz hst hh ha (by omega) h1
  · have hst : W.ss[i].st ≠ 2 := fun h2 => hf ⟨h2, by omega⟩
    cases ha : atL W.ss[i].prep key with
    | some v =>
      rw [show did1 W i 11 key val = (W.put i { W.ss[i] with prep := plusL W.ss[i].prep key val }, ok') by unfold did1; simp [getD_at hi, hst, fndL, ha]]
      exact did_prep_is base S cap r W i key val w h hw hb hi hkz hvz hst v ha
    | none =>
      by_cases h6 : 6 ≤ W.ss[i].prep.length
      · rw [show did1 W i 11 key val = (W, no' tFull) by unfold did1; simp [getD_at hi, hst, fndL, ha, h6]]
        exact did_prep_full base S cap r W i key val w h hw hb hi hkz hvz hst (by unfold fndL; rw [ha]; rfl) h6
      · rw [show did1 W i 11 key val = (W.put i { W.ss[i] with prep := plusL W.ss[i].prep key val }, ok') by unfold did1; simp [getD_at hi, hst, fndL, ha, h6]]
        exact did_prep_new base S cap r W i key val w h hw hb hi hkz hvz hst ha (by omega)
end Go.Proofs.YtpbaobmegomfpabDoor

