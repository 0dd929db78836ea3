/-
  Texts of the proof of BackDoes, one behind the other: RefDid9, RefDo, RefCopyM, OrdersZ, RefCopy, Grid, RefDof, Same, Laid, LaidWords, WBackDoes.
-/
import Derived.Test.YtpbaobmegomfpabDoorM6
import Derived.Deep.RegionHeld3
import Derived.Test.YtpbaobmegomfpabDoorM5
import Derived.Test.YtpbaobmegomfpabDoorM1
import Derived.Test.YtpbaobmegomfpabDoorM4
import Derived.Deep.AppendLies
import Derived.OrdersHeld
import Derived.Deep.RegionHeld
import Derived.Test.YtpbaobmegomfpabDoorRows
import Derived.Deep.QuietTactic
import Derived.BigQuiet
import Derived.IntWalk
import Derived.WalkSmall
import Derived.WalkKit
import Derived.ProofKit
import Derived.Lib.LaidTab
import Derived.Test.YtpbaobmegomfpabDoorM3
/-
  The reference's did, Exec.
-/
namespace Go.Proofs.YtpbaobmegomfpabDoor
open Go.RowKit
set_option linter.unusedVariables false
set_option linter.unusedSimpArgs false
set_option maxRecDepth 100000

theorem exec_fin {w w7 w8 : World} {base S cap n : Nat} {A8 : Option Addr} {d8 : Nat} {R : Wd × Ans} {w6 : World} (hb7 : Below w.heap.size w w7) (hw6 : w.heap.size + 1 + 1 + 1 + 1 + 1 + 1 ≤ w6.heap.size) (hb : base ≤ w.heap.size) (hSw : S < w.heap.size)
    (hr : RefW w8 base S cap (.slice A8 R.1.rows.length d8) R.1) (hbel : Below base w7 w8) (hrest : ∀ b, b < w7.heap.size → b ≠ S → w8.heap[b]? = w7.heap[b]?)
    (hR : RowTo w8 (w.heap.size + 1 + 1) 25 2 [.slice none 0 0, .slice none 0 0]) (hA : RowTo w8 (w.heap.size + 1 + 1 + 1) 30 3 [.int .i64 0, .string ⟨#[]⟩, .int .i64 0]) (x1 x2 x3 x4 x5 : Value) :
    DidPost w base S cap n R (.returned (.tuple #[.agg #[.slice A8 R.1.rows.length d8, slc S n cap], ansV R.2.kind R.2.text])) (((((w8.setCell ⟨w.heap.size + 1 + 1, 0, none⟩ x1).setCell ⟨w.heap.size + 1 + 1, 1, none⟩ x2).setCell ⟨w.heap.size + 1 + 1 + 1, 0, none⟩ x3).setCell ⟨w.heap.size + 1 + 1 + 1, 1, none⟩ x4).setCell ⟨w.heap.size + 1 + 1 + 1, 2, none⟩ x5) := by
  have hk1 : ∀ b, b ≠ w.heap.size + 1 + 1 → ((w8.setCell ⟨w.heap.size + 1 + 1, 0, none⟩ x1).setCell ⟨w.heap.size + 1 + 1, 1, none⟩ x2).heap[b]? = w8.heap[b]? := fun b hb => by rw [Below.heap_setCell _ _ _ _ hb, Below.heap_setCell _ _ _ _ hb]
  have e1 := hr.offN (R := w.heap.size + 1 + 1) (by omega) (noTwo_world hR) (w' := (w8.setCell ⟨w.heap.size + 1 + 1, 0, none⟩ x1).setCell ⟨w.heap.size + 1 + 1, 1, none⟩ x2) (by simp [World.setCell]) hk1
  have A1 := (hA.other (p := ⟨w.heap.size + 1 + 1, 0, none⟩) (by show w.heap.size + 1 + 1 ≠ _; omega) x1).other (p := ⟨w.heap.size + 1 + 1, 1, none⟩) (by show w.heap.size + 1 + 1 ≠ _; omega) x2
  have hk2 : ∀ b, b ≠ w.heap.size + 1 + 1 + 1 → (((((w8.setCell ⟨w.heap.size + 1 + 1, 0, none⟩ x1).setCell ⟨w.heap.size + 1 + 1, 1, none⟩ x2).setCell ⟨w.heap.size + 1 + 1 + 1, 0, none⟩ x3).setCell ⟨w.heap.size + 1 + 1 + 1, 1, none⟩ x4).setCell ⟨w.heap.size + 1 + 1 + 1, 2, none⟩ x5).heap[b]? = ((w8.setCell ⟨w.heap.size + 1 + 1, 0, none⟩ x1).setCell ⟨w.heap.size + 1 + 1, 1, none⟩ x2).heap[b]? := fun b hb => by rw [Below.heap_setCell _ _ _ _ hb, Below.heap_setCell _ _ _ _ hb, Below.heap_setCell _ _ _ _ hb]
  have e2 := e1.offN (R := w.heap.size + 1 + 1 + 1) (by omega) (noTwo_answer A1) (w' := ((((w8.setCell ⟨w.heap.size + 1 + 1, 0, none⟩ x1).setCell ⟨w.heap.size + 1 + 1, 1, none⟩ x2).setCell ⟨w.heap.size + 1 + 1 + 1, 0, none⟩ x3).setCell ⟨w.heap.size + 1 + 1 + 1, 1, none⟩ x4).setCell ⟨w.heap.size + 1 + 1 + 1, 2, none⟩ x5) (by simp [World.setCell]) hk2
  have hbf := ((((((hb7.mono hb).trans hbel).setCell (p := ⟨w.heap.size + 1 + 1, 0, none⟩) (by show base ≤ w.heap.size + 1 + 1; omega) x1).setCell (p := ⟨w.heap.size + 1 + 1, 1, none⟩) (by show base ≤ w.heap.size + 1 + 1; omega) x2).setCell (p := ⟨w.heap.size + 1 + 1 + 1, 0, none⟩) (by show base ≤ w.heap.size + 1 + 1 + 1; omega) x3).setCell (p := ⟨w.heap.size + 1 + 1 + 1, 1, none⟩) (by show base ≤ w.heap.size + 1 + 1 + 1; omega) x4).setCell (p := ⟨w.heap.size + 1 + 1 + 1, 2, none⟩) (by show base ≤ w.heap.size + 1 + 1 + 1; omega) x5
  exact ⟨_, rfl, e2, hbf, fun b h1 h2 => (hk2 b (by omega)).trans ((hk1 b (by omega)).trans ((hrest b (by have := hb7.size; omega) h2).trans (hb7.block b h1)))⟩

set_option maxHeartbeats 4000000 in
theorem did_exec_none (base S cap : Nat) (r : Value) (W : Wd) (i : Nat) (key val : ByteArray) (w : World) (h : RefW w base S cap r W) (hw : WorldOk W) (hb : base ≤ w.heap.size) (hi : i < W.ss.length) (hkz : key.size ≤ 8) (hvz : val.size ≤ 60) (hst : W.ss[i].st ≠ 2) (hv : atL W.ss[i].prep key = none) :
    Calls Tryd.prog 53 #[.agg #[r, slc S W.ss.length cap], .int .i64 i, .agg #[.int .i64 8, .string key, .string val]] w (DidPost w base S cap W.ss.length (W, no' tNotPrep)) := by
  obtain ⟨v1, v2, v3, v4, hs⟩ := h.ses i hi
  obtain ⟨D, d, rfl, hd⟩ := h.rows.form
  obtain ⟨A1, n1, rfl, _⟩ := hs.core.l1.form
  obtain ⟨A2, n2, rfl, _⟩ := hs.core.l2.form
  obtain ⟨A3, n3, rfl, _⟩ := hs.core.l3.form
  obtain ⟨A4, n4, rfl, _⟩ := hs.core.l4.form
  have H0 := Lib.hid (didAt0 w (.slice D W.rows.length d) (.slice (some ⟨S, 0, none⟩) W.ss.length cap) 8 key val W.ss[i].st (.slice A1 W.ss[i].set.length n1) (.slice A2 W.ss[i].prep.length n2) (.slice A3 W.ss[i].sav.length n3) (.slice A4 W.ss[i].wr.length n4))
  have hSw := h.blk.lt
  have bel0 := (doAt0 w (.slice D W.rows.length d) (.slice (some ⟨S, 0, none⟩) W.ss.length cap) 8 key val).bel
  have c0 := (bel0.cell (p := ⟨S, i * 5, none⟩) hSw).trans hs.core.c0
  have c1 := (bel0.cell (p := ⟨S, i * 5 + 1, none⟩) hSw).trans hs.core.c1
  have c2 := (bel0.cell (p := ⟨S, i * 5 + 2, none⟩) hSw).trans hs.core.c2
  have c3 := (bel0.cell (p := ⟨S, i * 5 + 3, none⟩) hSw).trans hs.core.c3
  have c4 := (bel0.cell (p := ⟨S, i * 5 + 4, none⟩) hSw).trans hs.core.c4
  unfold doW0 at c0 c1 c2 c3 c4
  clear bel0
  have hii : (i : Int) < (W.ss.length : Int) := by omega
  have HH := Lib.hid h
  have HS := Lib.hid hs
  have HW := Lib.hid hw
  have t0 : (W.ss[i].st == 2) = false := beq_eq_false_iff_ne.2 hst
  have HV := Lib.hid hv
  clear h hs hw hst hv
  unfold slc
  go_enter Tryd.func53, Tryd.ntmps53
  go_wp2_with fail
  have L1 := Lib.hid (HS.out.core.l2.step H0.out.bel)
  unfold didW0 doW0 at L1
  refine (at_any _ W.ss[i].prep key _ _ L1.out).mono ?_
  rw [HV.out, atV_none]
  rintro e w5 ⟨rfl, rfl⟩
  clear L1
  go_wp2_with fail
  have HA : Hid (DidAt w (didW0 w (.slice D W.rows.length d) (.slice (some ⟨S, 0, none⟩) W.ss.length cap) 8 key val W.ss[i].st (.slice A1 W.ss[i].set.length n1) (.slice A2 W.ss[i].prep.length n2) (.slice A3 W.ss[i].sav.length n3) (.slice A4 W.ss[i].wr.length n4)) (.slice D W.rows.length d) (.slice (some ⟨S, 0, none⟩) W.ss.length cap) 8 key val W.ss[i].st (.slice A1 W.ss[i].set.length n1) (.slice A2 W.ss[i].prep.length n2) (.slice A3 W.ss[i].sav.length n3) (.slice A4 W.ss[i].wr.length n4)) := H0
  unfold didW0 doW0 at HA
  clear H0 c0 c1 c2 c3 c4
  generalize ((((((w.alloc (.cells #[.slice D W.rows.length d, .slice (some ⟨S, 0, none⟩) W.ss.length cap] 25)).alloc (.cells #[.int .i64 8, .string key, .string val] 27)).alloc (.cells #[.slice none 0 0, .slice none 0 0] 25)).alloc (.cells #[.int .i64 0, .string ⟨#[]⟩, .int .i64 0] 30)).alloc (.cells #[.int .i64 W.ss[i].st, .slice A1 W.ss[i].set.length n1, .slice A2 W.ss[i].prep.length n2, .slice A3 W.ss[i].sav.length n3, .slice A4 W.ss[i].wr.length n4] 46)).alloc (.cells #[.int .i64 1, .string ⟨#[]⟩, .int .i64 0] 30)) = W5 at *
  have hA := HA.out
  have x0 := hA.X.cell (j := 0) (by simp)
  have x1 := hA.X.cell (j := 1) (by simp)
  simp only [List.getElem_cons_zero, List.getElem_cons_succ] at x0 x1
  have hX5 := hA.X.lt
  have hXR : w.heap.size ≠ w.heap.size + 1 + 1 := by omega
  have hXA : w.heap.size ≠ w.heap.size + 1 + 1 + 1 := by omega
  have HR5 := Lib.hid hA.R
  have HA5 := Lib.hid hA.A
  have HB5 := Lib.hid hA.bel
  have hRw5 := hA.R.lt
  have hAw5 := hA.A.lt
  clear hA
  have kb := Below.refl W5.heap.size W5
  have HSd := Lib.hid (show W5.drew.cell? ⟨w.heap.size, 0, none⟩ = some (.slice D W.rows.length d) ∧ W5.drew.cell? ⟨w.heap.size, 1, none⟩ = some (.slice (some ⟨S, 0, none⟩) W.ss.length cap) from ⟨x0, x1⟩)
  go_region_held3 (fun wx => wx.cell? ⟨w.heap.size, 0, none⟩ = some (.slice D W.rows.length d) ∧ wx.cell? ⟨w.heap.size, 1, none⟩ = some (.slice (some ⟨S, 0, none⟩) W.ss.length cap))
    (first
      | with_reducible exact ⟨x0, x1⟩
      | with_reducible exact HSd.out
      | with_reducible exact ⟨(kb.cell (p := ⟨w.heap.size, 0, none⟩) hX5).trans x0, (kb.cell (p := ⟨w.heap.size, 1, none⟩) hX5).trans x1⟩
      | with_reducible exact ⟨cell_set3 (cell_set2 ((kb.cell (p := ⟨w.heap.size, 0, none⟩) hX5).trans x0) hXR) hXA, cell_set3 (cell_set2 ((kb.cell (p := ⟨w.heap.size, 1, none⟩) hX5).trans x1) hXR) hXA⟩
      | with_reducible exact ⟨cell_set2 ((kb.cell (p := ⟨w.heap.size, 0, none⟩) hX5).trans x0) hXR, cell_set2 ((kb.cell (p := ⟨w.heap.size, 1, none⟩) hX5).trans x1) hXR⟩)
    (first
      | (
        go_at_call 67
        refine (no_any tNotPrep _).mono ?_
        rintro e w6 ⟨rfl, hy⟩
        have kb : Below W5.heap.size W5 w6 := by first | exact hy | exact bel_addN kb hy kb.size | exact bel_add kb hy kb.size
        have R6 := HR5.out.below kb hRw5
        have A6 := HA5.out.below kb hAw5
        have r0 := R6.cell (j := 0) (by simp)
        have r1 := R6.cell (j := 1) (by simp)
        have b0 := A6.cell (j := 0) (by simp)
        have b1 := A6.cell (j := 1) (by simp)
        have b2 := A6.cell (j := 2) (by simp)
        have g0 := R6.frozen 0
        have g1 := R6.frozen 1
        have k0 := A6.frozen 0
        have k1 := A6.frozen 1
        have k2 := A6.frozen 2
        simp only [List.getElem_cons_zero, List.getElem_cons_succ] at r0 r1 b0 b1 b2
        unfold ansV))
  all_goals go_wp2
  all_goals refine bodyPost_ret (v := .tuple #[.agg #[(.slice D W.rows.length d), (.slice (some ⟨S, 0, none⟩) W.ss.length cap)], .agg #[.int .i64 4, .string tNotPrep, .int .i64 0]]) (by simp [results, Tryd.results53, go_sem, r0, r1, b0, b1, b2]) rfl ?_
  all_goals exact did_answer HH.out hb (((((bel_add' HB5.out kb HB5.out.size).setCell (by show _ ≤ w.heap.size + 1 + 1; omega) _).setCell (by show _ ≤ w.heap.size + 1 + 1; omega) _).setCell (by show _ ≤ w.heap.size + 1 + 1 + 1; omega) _).setCell (by show _ ≤ w.heap.size + 1 + 1 + 1; omega) _ |>.setCell (by show _ ≤ w.heap.size + 1 + 1 + 1; omega) _) (no' tNotPrep)

set_option maxHeartbeats 4000000 in
theorem did_exec_some (base S cap : Nat) (r : Value) (W : Wd) (i : Nat) (key val : ByteArray) (w : World) (h : RefW w base S cap r W) (hw : WorldOk W) (hb : base ≤ w.heap.size) (hi : i < W.ss.length) (hkz : key.size ≤ 8) (hvz : val.size ≤ 60) (t : ByteArray) (hst : W.ss[i].st ≠ 2) (hv : atL W.ss[i].prep key = some t) :
    Calls Tryd.prog 53 #[.agg #[r, slc S W.ss.length cap], .int .i64 i, .agg #[.int .i64 8, .string key, .string val]] w (DidPost w base S cap W.ss.length (did1 W i (kindN (cutA t)) (cutA (cutB t)) (cutB (cutB t)))) := by
  obtain ⟨v1, v2, v3, v4, hs⟩ := h.ses i hi
  obtain ⟨D, d, rfl, hd⟩ := h.rows.form
  obtain ⟨A1, n1, rfl, _⟩ := hs.core.l1.form
  obtain ⟨A2, n2, rfl, _⟩ := hs.core.l2.form
  obtain ⟨A3, n3, rfl, _⟩ := hs.core.l3.form
  obtain ⟨A4, n4, rfl, _⟩ := hs.core.l4.form
  have H0 := Lib.hid (didAt0 w (.slice D W.rows.length d) (.slice (some ⟨S, 0, none⟩) W.ss.length cap) 8 key val W.ss[i].st (.slice A1 W.ss[i].set.length n1) (.slice A2 W.ss[i].prep.length n2) (.slice A3 W.ss[i].sav.length n3) (.slice A4 W.ss[i].wr.length n4))
  have hSw := h.blk.lt
  have bel0 := (doAt0 w (.slice D W.rows.length d) (.slice (some ⟨S, 0, none⟩) W.ss.length cap) 8 key val).bel
  have c0 := (bel0.cell (p := ⟨S, i * 5, none⟩) hSw).trans hs.core.c0
  have c1 := (bel0.cell (p := ⟨S, i * 5 + 1, none⟩) hSw).trans hs.core.c1
  have c2 := (bel0.cell (p := ⟨S, i * 5 + 2, none⟩) hSw).trans hs.core.c2
  have c3 := (bel0.cell (p := ⟨S, i * 5 + 3, none⟩) hSw).trans hs.core.c3
  have c4 := (bel0.cell (p := ⟨S, i * 5 + 4, none⟩) hSw).trans hs.core.c4
  unfold doW0 at c0 c1 c2 c3 c4
  clear bel0
  have hii : (i : Int) < (W.ss.length : Int) := by omega
  have HH := Lib.hid h
  have HS := Lib.hid hs
  have HW := Lib.hid hw
  have hps := prep_stmt (hw.sess i hi).prep hv
  have g := good_of hps.2.1
  obtain ⟨R, HR⟩ : ∃ R, Hid (R = did1 W i (kindN (cutA t)) (cutA (cutB t)) (cutB (cutB t))) := ⟨_, Lib.hid rfl⟩
  have HC := Lib.hid (fun (w9 : World) (h9 : RefW w9 base S cap (.slice D W.rows.length d) W) (hb9 : base ≤ w9.heap.size) => did_plain base S cap _ W i (kindN (cutA t)) (cutA (cutB t)) (cutB (cutB t)) w9 h9 hw hb9 hi g.key8 g.v60 g.lo g.hi (by omega))
  rw [← HR.out] at HC ⊢
  have HT := Lib.hid ((of_all t.size t (Nat.le_refl _)).ok hps.1)
  have t0 : (W.ss[i].st == 2) = false := beq_eq_false_iff_ne.2 hst
  have HV := Lib.hid hv
  generalize (kindN (cutA t) : Int) = k2 at *
  generalize cutA (cutB t) = key2 at *
  generalize cutB (cutB t) = val2 at *
  clear h hs hw hst hv hps g HR
  unfold slc
  go_enter Tryd.func53, Tryd.ntmps53
  go_wp2_with fail
  have L1 := Lib.hid (HS.out.core.l2.step H0.out.bel)
  unfold didW0 doW0 at L1
  refine (at_any _ W.ss[i].prep key _ _ L1.out).mono ?_
  rw [HV.out, atV_some]
  rintro e w5 ⟨rfl, rfl⟩
  clear L1
  have HA : Hid (DidAt w (didW0 w (.slice D W.rows.length d) (.slice (some ⟨S, 0, none⟩) W.ss.length cap) 8 key val W.ss[i].st (.slice A1 W.ss[i].set.length n1) (.slice A2 W.ss[i].prep.length n2) (.slice A3 W.ss[i].sav.length n3) (.slice A4 W.ss[i].wr.length n4)) (.slice D W.rows.length d) (.slice (some ⟨S, 0, none⟩) W.ss.length cap) 8 key val W.ss[i].st (.slice A1 W.ss[i].set.length n1) (.slice A2 W.ss[i].prep.length n2) (.slice A3 W.ss[i].sav.length n3) (.slice A4 W.ss[i].wr.length n4)) := H0
  unfold didW0 doW0 at HA
  clear H0 c0 c1 c2 c3 c4
  generalize ((((((w.alloc (.cells #[.slice D W.rows.length d, .slice (some ⟨S, 0, none⟩) W.ss.length cap] 25)).alloc (.cells #[.int .i64 8, .string key, .string val] 27)).alloc (.cells #[.slice none 0 0, .slice none 0 0] 25)).alloc (.cells #[.int .i64 0, .string ⟨#[]⟩, .int .i64 0] 30)).alloc (.cells #[.int .i64 W.ss[i].st, .slice A1 W.ss[i].set.length n1, .slice A2 W.ss[i].prep.length n2, .slice A3 W.ss[i].sav.length n3, .slice A4 W.ss[i].wr.length n4] 46)).alloc (.cells #[.int .i64 1, .string ⟨#[]⟩, .int .i64 0] 30)) = W5 at *
  go_wp2_with fail
  refine (HT.out _).mono ?_
  rintro e w6 ⟨rfl, hy⟩
  have h6 := (HA.out.below hy).below ((Below.refl w6.heap.size w6).alloc (Nat.le_refl _) (.cells #[.int .i64 k2, .string key2, .string val2] 27))
  have hw6 : w.heap.size + 1 + 1 + 1 + 1 + 1 + 1 ≤ w6.heap.size := (HA.out.below hy).size
  have x0 := h6.X.cell (j := 0) (by simp)
  have x1 := h6.X.cell (j := 1) (by simp)
  simp only [List.getElem_cons_zero, List.getElem_cons_succ] at x0 x1
  have H6 := Lib.hid h6
  clear h6 hy
  go_wp2_with fail
  have HB6 := Lib.hid (HH.out.below H6.out.bel)
  have hwb : base ≤ (w6.alloc (.cells #[.int .i64 k2, .string key2, .string val2] 27)).heap.size := by simp; omega
  refine (HC.out _ HB6.out hwb).mono ?_
  rintro e w8 ⟨r8, rfl, hr8, hbel8, hrest8⟩
  have R8 := H6.out.R.same (hrest8 _ H6.out.R.lt (by omega))
  have A8 := H6.out.A.same (hrest8 _ H6.out.A.lt (by omega))
  obtain ⟨D8, d8, rfl, _⟩ := hr8.rows.form
  have r0 := R8.cell (j := 0) (by simp)
  have r1 := R8.cell (j := 1) (by simp)
  have b0 := A8.cell (j := 0) (by simp)
  have b1 := A8.cell (j := 1) (by simp)
  have b2 := A8.cell (j := 2) (by simp)
  have g0 := R8.frozen 0
  have g1 := R8.frozen 1
  have k0 := A8.frozen 0
  have k1 := A8.frozen 1
  have k2' := A8.frozen 2
  simp only [List.getElem_cons_zero, List.getElem_cons_succ] at r0 r1 b0 b1 b2
  have HF := Lib.hid (exec_fin (n := W.ss.length) H6.out.bel hw6 hb hSw hr8 hbel8 hrest8 R8 A8)
  clear hr8 hbel8 hrest8 R8 A8 x0 x1
  unfold slc ansV
  go_wp2
  refine bodyPost_ret (v := .tuple #[.agg #[.slice D8 R.1.rows.length d8, .slice (some ⟨S, 0, none⟩) W.ss.length cap], .agg #[.int .i64 R.2.kind, .string R.2.text, .int .i64 0]]) (by simp [results, Tryd.results53, go_sem, r0, r1, b0, b1, b2]) rfl ?_
  exact HF.out _ _ _ _ _

theorem did_any (base S cap : Nat) (r : Value) (W : Wd) (i : Nat) (k : Int) (key val : ByteArray) (w : World) (h : RefW w base S cap r W) (hw : WorldOk W) (hb : base ≤ w.heap.size) (hi : i < W.ss.length) (hg : checkE k key val = 0) :
    Calls Tryd.prog 53 #[.agg #[r, slc S W.ss.length cap], .int .i64 i, .agg #[.int .i64 k, .string key, .string val]] w (DidPost w base S cap W.ss.length (didM W i k key val)) := by
  have g := good_of hg
  by_cases h8 : k = 8
  · subst h8
    by_cases hst : W.ss[i].st = 2
    · rw [show didM W i 8 key val = (W, no' tFailed) by unfold didM; simp only [getD_at hi]; rw [if_pos trivial, if_pos hst]]
      exact did_failed base S cap r W i 8 key val w h hw hb hi g.key8 g.v60 hst (by decide) (by decide)
    · cases ha : atL W.ss[i].prep key with
      | none =>
        rw [show didM W i 8 key val = (W, no' tNotPrep) by unfold didM; simp only [getD_at hi]; rw [if_pos trivial, if_neg hst, ha]]
        exact did_exec_none base S cap r W i key val w h hw hb hi g.key8 g.v60 hst ha
      | some t =>
        rw [show didM W i 8 key val = did1 W i (kindN (cutA t)) (cutA (cutB t)) (cutB (cutB t)) by unfold didM; simp only [getD_at hi]; rw [if_pos trivial, if_neg hst, ha]]
        exact did_exec_some base S cap r W i key val w h hw hb hi g.key8 g.v60 t hst ha
  · rw [show didM W i k key val = did1 W i k key val by unfold didM; rw [if_neg h8]]
    exact did_plain base S cap r W i k key val w h hw hb hi g.key8 g.v60 g.lo g.hi h8
end Go.Proofs.YtpbaobmegomfpabDoor

/-
  The reference's Did, DidOf.
-/
namespace Go.Proofs.YtpbaobmegomfpabDoor
open Go.RowKit
set_option linter.unusedVariables false
set_option linter.unusedSimpArgs false
set_option maxRecDepth 100000

def DidsPost (w : World) (base S cap n : Nat) (R : Wd × Ans) (st : Int) (e : Ending) (w' : World) : Prop :=
  ∃ r', e = .returned (.tuple #[.agg #[r', slc S n cap], .agg #[.int .i64 R.2.kind, .string R.2.text, .int .i64 st]]) ∧ RefW w' base S cap r' R.1 ∧ Below base w w' ∧ (∀ b, b < w.heap.size → b ≠ S → w'.heap[b]? = w.heap[b]?)

theorem RefW.failed {w : World} {base S cap : Nat} {r : Value} {W : Wd} (h : RefW w base S cap r W) {i : Nat} (hi : i < W.ss.length) :
    RefW ((w.setCell ⟨S, i * 5, none⟩ (.int .i64 2)).setCell ⟨S, i * 5 + 4, none⟩ (.slice none 0 0)) base S cap r (W.put i { W.ss[i] with st := 2, wr := [] }) := by
  have hlen := h.len
  have hk : ∀ b, b ≠ S → ((w.setCell ⟨S, i * 5, none⟩ (.int .i64 2)).setCell ⟨S, i * 5 + 4, none⟩ (.slice none 0 0)).heap[b]? = w.heap[b]? := fun b hb => by rw [Below.heap_setCell _ _ _ _ hb, Below.heap_setCell _ _ _ _ hb]
  have hs : ((w.setCell ⟨S, i * 5, none⟩ (.int .i64 2)).setCell ⟨S, i * 5 + 4, none⟩ (.slice none 0 0)).heap.size = w.heap.size := by simp [World.setCell]
  have co : ∀ j, j ≠ i * 5 → j ≠ i * 5 + 4 → ((w.setCell ⟨S, i * 5, none⟩ (.int .i64 2)).setCell ⟨S, i * 5 + 4, none⟩ (.slice none 0 0)).cell? ⟨S, j, none⟩ = w.cell? ⟨S, j, none⟩ := fun j h1 h2 => by rw [cell_off _ h2, cell_off _ h1]
  obtain ⟨v1, v2, v3, v4, q⟩ := h.ses i hi
  have ll : ∀ {v : Value} {l : PL}, Lst w w.heap.size v l → InP (· ≠ S) v l → Lst ((w.setCell ⟨S, i * 5, none⟩ (.int .i64 2)).setCell ⟨S, i * 5 + 4, none⟩ (.slice none 0 0)) ((w.setCell ⟨S, i * 5, none⟩ (.int .i64 2)).setCell ⟨S, i * 5 + 4, none⟩ (.slice none 0 0)).heap.size v l := fun a b => a.keepP (own_lt a b) (fun x hx => hk x hx.1) (fun x hx => by rw [hs]; exact hx.2)
  refine h.put (r' := r) (rows' := W.rows) (s' := { W.ss[i] with st := 2, wr := [] }) (v1 := v1) (v2 := v2) (v3 := v3) (v4 := .slice none 0 0) hi (by rw [hs]; exact Nat.le_refl _) (fun b _ h2 => hk b h2) ((h.blk.hit _).hit _) (fun j hj => co j (by omega) (by omega)) (ll h.rows h.rin) h.rin ⟨⟨?_, ?_, ?_, ?_, ?_, ll q.core.l1 q.p1, ll q.core.l2 q.p2, ll q.core.l3 q.p3, Lst.none_ _ _⟩, q.p1, q.p2, q.p3, InP.nil_ _ _⟩
  · rw [cell_off _ (by omega)]; exact cell_put h.blk (by omega) _
  · exact (co _ (by omega) (by omega)).trans q.core.c1
  · exact (co _ (by omega) (by omega)).trans q.core.c2
  · exact (co _ (by omega) (by omega)).trans q.core.c3
  · exact cell_put (h.blk.hit _) (by omega) _
/-- the results are laid, and returned -/
theorem dids_fin {w w8 w' : World} {base S cap n : Nat} {A8 : Option Addr} {d8 : Nat} {R : Wd × Ans} {st : Int} (hb : base ≤ w.heap.size) (hSw : S < w.heap.size)
    (hr : RefW w8 base S cap (.slice A8 R.1.rows.length d8) R.1) (hbel : Below base w w8) (hrest : ∀ b, b < w.heap.size → b ≠ S → w8.heap[b]? = w.heap[b]?)
    (hR : RowTo w8 (w.heap.size + 1 + 1) 25 2 [.slice none 0 0, .slice none 0 0]) (hA : RowTo w8 (w.heap.size + 1 + 1 + 1) 30 3 [.int .i64 0, .string ⟨#[]⟩, .int .i64 0]) (x1 x2 x3 x4 x5 : Value)
    (hh : w'.heap = (((((w8.setCell ⟨w.heap.size + 1 + 1, 0, none⟩ x1).setCell ⟨w.heap.size + 1 + 1, 1, none⟩ x2).setCell ⟨w.heap.size + 1 + 1 + 1, 0, none⟩ x3).setCell ⟨w.heap.size + 1 + 1 + 1, 1, none⟩ x4).setCell ⟨w.heap.size + 1 + 1 + 1, 2, none⟩ x5).heap) (ht : w'.os = w8.os ∧ w'.tape = w8.tape ∧ w'.output = w8.output) :
    DidsPost w base S cap n R st (.returned (.tuple #[.agg #[.slice A8 R.1.rows.length d8, slc S n cap], .agg #[.int .i64 R.2.kind, .string R.2.text, .int .i64 st]])) w' := by
  have hk1 : ∀ b, b ≠ w.heap.size + 1 + 1 → ((w8.setCell ⟨w.heap.size + 1 + 1, 0, none⟩ x1).setCell ⟨w.heap.size + 1 + 1, 1, none⟩ x2).heap[b]? = w8.heap[b]? := fun b hb => by rw [Below.heap_setCell _ _ _ _ hb, Below.heap_setCell _ _ _ _ hb]
  have e1 := hr.offN (R := w.heap.size + 1 + 1) (by omega) (noTwo_world hR) (w' := (w8.setCell ⟨w.heap.size + 1 + 1, 0, none⟩ x1).setCell ⟨w.heap.size + 1 + 1, 1, none⟩ x2) (by simp [World.setCell]) hk1
  have A1 := (hA.other (p := ⟨w.heap.size + 1 + 1, 0, none⟩) (by show w.heap.size + 1 + 1 ≠ _; omega) x1).other (p := ⟨w.heap.size + 1 + 1, 1, none⟩) (by show w.heap.size + 1 + 1 ≠ _; omega) x2
  have hk2 : ∀ b, b ≠ w.heap.size + 1 + 1 + 1 → w'.heap[b]? = ((w8.setCell ⟨w.heap.size + 1 + 1, 0, none⟩ x1).setCell ⟨w.heap.size + 1 + 1, 1, none⟩ x2).heap[b]? := fun b hb => by rw [hh, Below.heap_setCell _ _ _ _ hb, Below.heap_setCell _ _ _ _ hb, Below.heap_setCell _ _ _ _ hb]
  have hz : w'.heap.size = w8.heap.size := by rw [hh]; simp [World.setCell]
  have e2 := e1.offN (R := w.heap.size + 1 + 1 + 1) (by omega) (noTwo_answer A1) (w' := w') (by rw [hz]; simp [World.setCell]) hk2
  have hold : ∀ b, b < w.heap.size → b ≠ S → w'.heap[b]? = w.heap[b]? := fun b h1 h2 => (hk2 b (by omega)).trans ((hk1 b (by omega)).trans (hrest b h1 h2))
  have hlo := hr.lo
  exact ⟨_, rfl, e2, ⟨ht.1.trans hbel.os, ht.2.1.trans hbel.tape, ht.2.2.trans hbel.output, by rw [hz]; exact hbel.size, fun b hb' => hold b (by omega) (by omega)⟩, hold⟩

set_option maxHeartbeats 4000000 in
theorem dids_any (base S cap : Nat) (r : Value) (W : Wd) (i : Nat) (k : Int) (key val : ByteArray) (w : World) (h : RefW w base S cap r W) (hw : WorldOk W) (hb : base ≤ w.heap.size) (hi : i < W.ss.length) (hg : checkE k key val = 0) :
    Calls Tryd.prog 29 #[.agg #[r, slc S W.ss.length cap], .int .i64 i, .agg #[.int .i64 k, .string key, .string val]] w (DidsPost w base S cap W.ss.length (doM W i k key val) ((doM W i k key val).1.at i).st) := by
  obtain ⟨D, d, rfl, hd⟩ := h.rows.form
  have H0 := Lib.hid (doAt0 w (.slice D W.rows.length d) (.slice (some ⟨S, 0, none⟩) W.ss.length cap) k key val)
  have hSw := h.blk.lt
  have hii : (i : Int) < (W.ss.length : Int) := by omega
  have hfine := didM_ok hw hi hg
  obtain ⟨R, HR⟩ : ∃ R, Hid (R = didM W i k key val) := ⟨_, Lib.hid rfl⟩
  have HC := Lib.hid (did_any base S cap _ W i k key val _ (h.below H0.out.bel) hw (by rw [doW0_size]; omega) hi hg)
  unfold doW0 at HC
  unfold slc at HC
  rw [← HR.out] at HC hfine
  have HH := Lib.hid h
  have HW := Lib.hid hw
  clear h hw
  unfold slc
  go_enter Tryd.func29, Tryd.ntmps29
  go_wp2_with fail
  refine HC.out.mono ?_
  rintro e w1 ⟨r8, rfl, hr8, hbel8, hrest8⟩
  have h0 := H0.out
  unfold doW0 at h0
  have R8 := h0.R.same (hrest8 _ h0.R.lt (by omega))
  have A8 := h0.A.same (hrest8 _ h0.A.lt (by omega))
  have hbw : Below base w w1 := (h0.bel.mono hb).trans hbel8
  have hold : ∀ b, b < w.heap.size → b ≠ S → w1.heap[b]? = w.heap[b]? := fun b h1 h2 => (hrest8 b (Nat.lt_of_lt_of_le h1 h0.bel.size) h2).trans (h0.bel.block b h1)
  obtain ⟨D8, d8, rfl, _⟩ := hr8.rows.form
  have hqi : i < R.1.ss.length := by rw [hfine.2]; exact hi
  obtain ⟨v1, v2, v3, v4, hs⟩ := hr8.ses i hqi
  have s0 := hs.core.c0
  have hS1 := hr8.blk.lt
  have hlen8 := hr8.len
  have f0 := hr8.blk.frozen (i * 5)
  have f4 := hr8.blk.frozen (i * 5 + 4)
  obtain ⟨u4, s4⟩ := hr8.blk.any (j := i * 5 + 4) (by omega)
  have hRw := R8.lt
  have hAw := A8.lt
  have H8 := Lib.hid hr8
  have HB := Lib.hid hbw
  have HO := Lib.hid hold
  have HR8 := Lib.hid R8
  have HA8 := Lib.hid A8
  have HN := Lib.hid hfine.2
  clear hr8 hbel8 hrest8 h0 R8 A8 hbw hold hs hfine HC H0
  unfold slc ansV
  by_cases hcase : R.2.kind = 4 ∧ R.1.ss[i].st = 1
  · have c1 : (R.2.kind == 4) = true := beq_iff_eq.2 hcase.1
    have c2 : (R.1.ss[i].st == 1) = true := beq_iff_eq.2 hcase.2
    have HC := Lib.hid hcase
    clear hcase
    go_wp2
    have hz0 : ((w1.setCell ⟨S, i * 5, none⟩ (.int .i64 2)).setCell ⟨S, i * 5 + 4, none⟩ (.slice none 0 0)).heap.size = w1.heap.size := by simp [World.setCell]
    have b9 := ((Below.refl ((w1.setCell ⟨S, i * 5, none⟩ (.int .i64 2)).setCell ⟨S, i * 5 + 4, none⟩ (.slice none 0 0)).heap.size ((w1.setCell ⟨S, i * 5, none⟩ (.int .i64 2)).setCell ⟨S, i * 5 + 4, none⟩ (.slice none 0 0))).alloc (Nat.le_refl _) (.cells #[.slice D8 R.1.rows.length d8, .slice (some ⟨S, 0, none⟩) W.ss.length cap] 25)).alloc (by simp [World.setCell]) (.cells #[.int .i64 R.2.kind, .string R.2.text, .int .i64 2] 30)
    have hr9 := (H8.out.failed hqi).below b9
    have hb9 := ((HB.out.setCell (p := ⟨S, i * 5, none⟩) H8.out.lo (.int .i64 2)).setCell (p := ⟨S, i * 5 + 4, none⟩) H8.out.lo (.slice none 0 0)).trans (b9.mono (by rw [hz0]; have := HB.out.size; omega))
    have ho9 : ∀ b, b < w.heap.size → b ≠ S → ((((w1.setCell ⟨S, i * 5, none⟩ (.int .i64 2)).setCell ⟨S, i * 5 + 4, none⟩ (.slice none 0 0)).alloc (.cells #[.slice D8 R.1.rows.length d8, .slice (some ⟨S, 0, none⟩) W.ss.length cap] 25)).alloc (.cells #[.int .i64 R.2.kind, .string R.2.text, .int .i64 2] 30)).heap[b]? = w.heap[b]? := fun b h1 h2 => (b9.block b (by rw [hz0]; have := HB.out.size; omega)).trans (by rw [Below.heap_setCell _ _ _ _ h2, Below.heap_setCell _ _ _ _ h2]; exact HO.out b h1 h2)
    have R9 := ((HR8.out.other (p := ⟨S, i * 5, none⟩) (by show S ≠ _; omega) (.int .i64 2)).other (p := ⟨S, i * 5 + 4, none⟩) (by show S ≠ _; omega) (.slice none 0 0)).below b9 (by rw [hz0]; exact hRw)
    have A9 := ((HA8.out.other (p := ⟨S, i * 5, none⟩) (by show S ≠ _; omega) (.int .i64 2)).other (p := ⟨S, i * 5 + 4, none⟩) (by show S ≠ _; omega) (.slice none 0 0)).below b9 (by rw [hz0]; exact hAw)
    have m0 := (RowTo.whole ((w1.setCell ⟨S, i * 5, none⟩ (.int .i64 2)).setCell ⟨S, i * 5 + 4, none⟩ (.slice none 0 0)) #[.slice D8 R.1.rows.length d8, .slice (some ⟨S, 0, none⟩) W.ss.length cap] 25).alloc (.cells #[.int .i64 R.2.kind, .string R.2.text, .int .i64 2] 30)
    have m1 := RowTo.whole (((w1.setCell ⟨S, i * 5, none⟩ (.int .i64 2)).setCell ⟨S, i * 5 + 4, none⟩ (.slice none 0 0)).alloc (.cells #[.slice D8 R.1.rows.length d8, .slice (some ⟨S, 0, none⟩) W.ss.length cap] 25)) #[.int .i64 R.2.kind, .string R.2.text, .int .i64 2] 30
    rw [hz0] at m0
    rw [show (((w1.setCell ⟨S, i * 5, none⟩ (.int .i64 2)).setCell ⟨S, i * 5 + 4, none⟩ (.slice none 0 0)).alloc (.cells #[.slice D8 R.1.rows.length d8, .slice (some ⟨S, 0, none⟩) W.ss.length cap] 25)).heap.size = w1.heap.size + 1 by rw [World.size_alloc, hz0]] at m1
    have HR9 := Lib.hid hr9
    have HB9 := Lib.hid hb9
    have HO9 := Lib.hid ho9
    have HRR := Lib.hid R9
    have HAA := Lib.hid A9
    have HM0 := Lib.hid m0
    have HM1 := Lib.hid m1
    clear hr9 hb9 ho9 R9 A9 m0 m1 b9 hz0 s0 s4 f0 f4
    generalize (((w1.setCell ⟨S, i * 5, none⟩ (.int .i64 2)).setCell ⟨S, i * 5 + 4, none⟩ (.slice none 0 0)).alloc (.cells #[.slice D8 R.1.rows.length d8, .slice (some ⟨S, 0, none⟩) W.ss.length cap] 25)).alloc (.cells #[.int .i64 R.2.kind, .string R.2.text, .int .i64 2] 30) = W9 at *
    have q0 := HM0.out.cell (j := 0) (by simp)
    have q1 := HM0.out.cell (j := 1) (by simp)
    have p0 := HM1.out.cell (j := 0) (by simp)
    have p1 := HM1.out.cell (j := 1) (by simp)
    have p2 := HM1.out.cell (j := 2) (by simp)
    simp only [List.getElem_toArray, List.getElem_cons_zero, List.getElem_cons_succ] at q0 q1 p0 p1 p2
    have hOR : w1.heap.size ≠ w.heap.size + 1 + 1 := by omega
    have hOA : w1.heap.size ≠ w.heap.size + 1 + 1 + 1 := by omega
    have hPR : w1.heap.size + 1 ≠ w.heap.size + 1 + 1 := by omega
    have hPA : w1.heap.size + 1 ≠ w.heap.size + 1 + 1 + 1 := by omega
    have r0 := HRR.out.cell (j := 0) (by simp)
    have r1 := HRR.out.cell (j := 1) (by simp)
    have b0 := HAA.out.cell (j := 0) (by simp)
    have b1 := HAA.out.cell (j := 1) (by simp)
    have b2 := HAA.out.cell (j := 2) (by simp)
    have g0 := HRR.out.frozen 0
    have g1 := HRR.out.frozen 1
    have k0 := HAA.out.frozen 0
    have k1 := HAA.out.frozen 1
    have k2 := HAA.out.frozen 2
    simp only [List.getElem_cons_zero, List.getElem_cons_succ] at r0 r1 b0 b1 b2
    have HDM := Lib.hid (show doM W i k key val = (R.1.put i { R.1.ss[i] with st := 2, wr := [] }, R.2) by rw [doM, ← HR.out]; simp only [getD_at hqi]; rw [if_pos HC.out])
    have HF := Lib.hid (fun x1 x2 x3 x4 x5 (w' : World) hh ht => dids_fin (w' := w') (n := W.ss.length) (R := (R.1.put i { R.1.ss[i] with st := 2, wr := [] }, R.2)) (st := 2) hb hSw HR9.out HB9.out (fun b h1 h2 => HO9.out b h1 h2) HRR.out HAA.out x1 x2 x3 x4 x5 hh ht)
    have HSd := Lib.hid (show W9.drew.cell? ⟨w1.heap.size, 0, none⟩ = some (.slice D8 R.1.rows.length d8) ∧ W9.drew.cell? ⟨w1.heap.size, 1, none⟩ = some (.slice (some ⟨S, 0, none⟩) W.ss.length cap) ∧ W9.drew.cell? ⟨w1.heap.size + 1, 0, none⟩ = some (.int .i64 R.2.kind) ∧ W9.drew.cell? ⟨w1.heap.size + 1, 1, none⟩ = some (.string R.2.text) ∧ W9.drew.cell? ⟨w1.heap.size + 1, 2, none⟩ = some (.int .i64 2) from ⟨q0, q1, p0, p1, p2⟩)
    go_region_held3 (fun wx => wx.cell? ⟨w1.heap.size, 0, none⟩ = some (.slice D8 R.1.rows.length d8) ∧ wx.cell? ⟨w1.heap.size, 1, none⟩ = some (.slice (some ⟨S, 0, none⟩) W.ss.length cap) ∧ wx.cell? ⟨w1.heap.size + 1, 0, none⟩ = some (.int .i64 R.2.kind) ∧ wx.cell? ⟨w1.heap.size + 1, 1, none⟩ = some (.string R.2.text) ∧ wx.cell? ⟨w1.heap.size + 1, 2, none⟩ = some (.int .i64 2))
      (first
        | with_reducible exact ⟨q0, q1, p0, p1, p2⟩
        | with_reducible exact HSd.out
        | with_reducible exact ⟨cell_set3 (cell_set2 q0 hOR) hOA, cell_set3 (cell_set2 q1 hOR) hOA, cell_set3 (cell_set2 p0 hPR) hPA, cell_set3 (cell_set2 p1 hPR) hPA, cell_set3 (cell_set2 p2 hPR) hPA⟩
        | with_reducible exact ⟨cell_drew (cell_set3 (cell_set2 q0 hOR) hOA), cell_drew (cell_set3 (cell_set2 q1 hOR) hOA), cell_drew (cell_set3 (cell_set2 p0 hPR) hPA), cell_drew (cell_set3 (cell_set2 p1 hPR) hPA), cell_drew (cell_set3 (cell_set2 p2 hPR) hPA)⟩
        | with_reducible exact ⟨cell_drew (cell_set2 q0 hOR), cell_drew (cell_set2 q1 hOR), cell_drew (cell_set2 p0 hPR), cell_drew (cell_set2 p1 hPR), cell_drew (cell_set2 p2 hPR)⟩
        | with_reducible exact ⟨cell_set2 q0 hOR, cell_set2 q1 hOR, cell_set2 p0 hPR, cell_set2 p1 hPR, cell_set2 p2 hPR⟩)
      (fail)
    all_goals go_wp2
    all_goals refine bodyPost_ret (v := .tuple #[.agg #[.slice D8 R.1.rows.length d8, .slice (some ⟨S, 0, none⟩) W.ss.length cap], .agg #[.int .i64 R.2.kind, .string R.2.text, .int .i64 2]]) (by simp [results, Tryd.results29, go_sem, r0, r1, b0, b1, b2]) rfl ?_
    all_goals rw [HDM.out]
    all_goals simp only [wput_at_ hqi]
    all_goals exact HF.out (.slice D8 R.1.rows.length d8) (.slice (some ⟨S, 0, none⟩) W.ss.length cap) (.int .i64 R.2.kind) (.string R.2.text) (.int .i64 2) _ (by rfl) ⟨by rfl, by rfl, by rfl⟩
  · have HC := Lib.hid hcase
    cases c1 : (R.2.kind == 4)
    · clear hcase
      go_wp2
      have hz0 : (w1).heap.size = w1.heap.size := by simp [World.setCell]
      have b9 := ((Below.refl w1.heap.size (w1)).alloc (Nat.le_refl _) (.cells #[.slice D8 R.1.rows.length d8, .slice (some ⟨S, 0, none⟩) W.ss.length cap] 25)).alloc (by simp [World.setCell]) (.cells #[.int .i64 R.2.kind, .string R.2.text, .int .i64 R.1.ss[i].st] 30)
      have hr9 := (H8.out).below b9
      have hb9 := (HB.out).trans (b9.mono (by rw [hz0]; have := HB.out.size; omega))
      have ho9 : ∀ b, b < w.heap.size → b ≠ S → (((w1).alloc (.cells #[.slice D8 R.1.rows.length d8, .slice (some ⟨S, 0, none⟩) W.ss.length cap] 25)).alloc (.cells #[.int .i64 R.2.kind, .string R.2.text, .int .i64 R.1.ss[i].st] 30)).heap[b]? = w.heap[b]? := fun b h1 h2 => (b9.block b (by rw [hz0]; have := HB.out.size; omega)).trans (HO.out b h1 h2)
      have R9 := (HR8.out).below b9 (by rw [hz0]; exact hRw)
      have A9 := (HA8.out).below b9 (by rw [hz0]; exact hAw)
      have m0 := (RowTo.whole (w1) #[.slice D8 R.1.rows.length d8, .slice (some ⟨S, 0, none⟩) W.ss.length cap] 25).alloc (.cells #[.int .i64 R.2.kind, .string R.2.text, .int .i64 R.1.ss[i].st] 30)
      have m1 := RowTo.whole ((w1).alloc (.cells #[.slice D8 R.1.rows.length d8, .slice (some ⟨S, 0, none⟩) W.ss.length cap] 25)) #[.int .i64 R.2.kind, .string R.2.text, .int .i64 R.1.ss[i].st] 30
      rw [hz0] at m0
      rw [show ((w1).alloc (.cells #[.slice D8 R.1.rows.length d8, .slice (some ⟨S, 0, none⟩) W.ss.length cap] 25)).heap.size = w1.heap.size + 1 by rw [World.size_alloc, hz0]] at m1
      have HR9 := Lib.hid hr9
      have HB9 := Lib.hid hb9
      have HO9 := Lib.hid ho9
      have HRR := Lib.hid R9
      have HAA := Lib.hid A9
      have HM0 := Lib.hid m0
      have HM1 := Lib.hid m1
      clear hr9 hb9 ho9 R9 A9 m0 m1 b9 hz0 s0 s4 f0 f4
      generalize ((w1).alloc (.cells #[.slice D8 R.1.rows.length d8, .slice (some ⟨S, 0, none⟩) W.ss.length cap] 25)).alloc (.cells #[.int .i64 R.2.kind, .string R.2.text, .int .i64 R.1.ss[i].st] 30) = W9 at *
      have q0 := HM0.out.cell (j := 0) (by simp)
      have q1 := HM0.out.cell (j := 1) (by simp)
      have p0 := HM1.out.cell (j := 0) (by simp)
      have p1 := HM1.out.cell (j := 1) (by simp)
      have p2 := HM1.out.cell (j := 2) (by simp)
      simp only [List.getElem_toArray, List.getElem_cons_zero, List.getElem_cons_succ] at q0 q1 p0 p1 p2
      have hOR : w1.heap.size ≠ w.heap.size + 1 + 1 := by omega
      have hOA : w1.heap.size ≠ w.heap.size + 1 + 1 + 1 := by omega
      have hPR : w1.heap.size + 1 ≠ w.heap.size + 1 + 1 := by omega
      have hPA : w1.heap.size + 1 ≠ w.heap.size + 1 + 1 + 1 := by omega
      have r0 := HRR.out.cell (j := 0) (by simp)
      have r1 := HRR.out.cell (j := 1) (by simp)
      have b0 := HAA.out.cell (j := 0) (by simp)
      have b1 := HAA.out.cell (j := 1) (by simp)
      have b2 := HAA.out.cell (j := 2) (by simp)
      have g0 := HRR.out.frozen 0
      have g1 := HRR.out.frozen 1
      have k0 := HAA.out.frozen 0
      have k1 := HAA.out.frozen 1
      have k2 := HAA.out.frozen 2
      simp only [List.getElem_cons_zero, List.getElem_cons_succ] at r0 r1 b0 b1 b2
      have HDM := Lib.hid (show doM W i k key val = R by rw [doM, ← HR.out]; simp only [getD_at hqi]; rw [if_neg HC.out])
      have HF := Lib.hid (fun x1 x2 x3 x4 x5 (w' : World) hh ht => dids_fin (w' := w') (n := W.ss.length) (R := R) (st := R.1.ss[i].st) hb hSw HR9.out HB9.out (fun b h1 h2 => HO9.out b h1 h2) HRR.out HAA.out x1 x2 x3 x4 x5 hh ht)
      have HSd := Lib.hid (show W9.drew.cell? ⟨w1.heap.size, 0, none⟩ = some (.slice D8 R.1.rows.length d8) ∧ W9.drew.cell? ⟨w1.heap.size, 1, none⟩ = some (.slice (some ⟨S, 0, none⟩) W.ss.length cap) ∧ W9.drew.cell? ⟨w1.heap.size + 1, 0, none⟩ = some (.int .i64 R.2.kind) ∧ W9.drew.cell? ⟨w1.heap.size + 1, 1, none⟩ = some (.string R.2.text) ∧ W9.drew.cell? ⟨w1.heap.size + 1, 2, none⟩ = some (.int .i64 R.1.ss[i].st) from ⟨q0, q1, p0, p1, p2⟩)
      go_region_held3 (fun wx => wx.cell? ⟨w1.heap.size, 0, none⟩ = some (.slice D8 R.1.rows.length d8) ∧ wx.cell? ⟨w1.heap.size, 1, none⟩ = some (.slice (some ⟨S, 0, none⟩) W.ss.length cap) ∧ wx.cell? ⟨w1.heap.size + 1, 0, none⟩ = some (.int .i64 R.2.kind) ∧ wx.cell? ⟨w1.heap.size + 1, 1, none⟩ = some (.string R.2.text) ∧ wx.cell? ⟨w1.heap.size + 1, 2, none⟩ = some (.int .i64 R.1.ss[i].st))
        (first
          | with_reducible exact ⟨q0, q1, p0, p1, p2⟩
          | with_reducible exact HSd.out
          | with_reducible exact ⟨cell_set3 (cell_set2 q0 hOR) hOA, cell_set3 (cell_set2 q1 hOR) hOA, cell_set3 (cell_set2 p0 hPR) hPA, cell_set3 (cell_set2 p1 hPR) hPA, cell_set3 (cell_set2 p2 hPR) hPA⟩
          | with_reducible exact ⟨cell_drew (cell_set3 (cell_set2 q0 hOR) hOA), cell_drew (cell_set3 (cell_set2 q1 hOR) hOA), cell_drew (cell_set3 (cell_set2 p0 hPR) hPA), cell_drew (cell_set3 (cell_set2 p1 hPR) hPA), cell_drew (cell_set3 (cell_set2 p2 hPR) hPA)⟩
          | with_reducible exact ⟨cell_drew (cell_set2 q0 hOR), cell_drew (cell_set2 q1 hOR), cell_drew (cell_set2 p0 hPR), cell_drew (cell_set2 p1 hPR), cell_drew (cell_set2 p2 hPR)⟩
          | with_reducible exact ⟨cell_set2 q0 hOR, cell_set2 q1 hOR, cell_set2 p0 hPR, cell_set2 p1 hPR, cell_set2 p2 hPR⟩)
        (fail)
      all_goals go_wp2
      all_goals refine bodyPost_ret (v := .tuple #[.agg #[.slice D8 R.1.rows.length d8, .slice (some ⟨S, 0, none⟩) W.ss.length cap], .agg #[.int .i64 R.2.kind, .string R.2.text, .int .i64 R.1.ss[i].st]]) (by simp [results, Tryd.results29, go_sem, r0, r1, b0, b1, b2]) rfl ?_
      all_goals rw [HDM.out]
      all_goals rw [getD_at hqi]
      all_goals exact HF.out (.slice D8 R.1.rows.length d8) (.slice (some ⟨S, 0, none⟩) W.ss.length cap) (.int .i64 R.2.kind) (.string R.2.text) (.int .i64 R.1.ss[i].st) _ (by rfl) ⟨by rfl, by rfl, by rfl⟩
    · have c2 : (R.1.ss[i].st == 1) = false := beq_eq_false_iff_ne.2 fun h1 => hcase ⟨beq_iff_eq.1 c1, h1⟩
      clear hcase
      go_wp2
      have hz0 : (w1).heap.size = w1.heap.size := by simp [World.setCell]
      have b9 := ((Below.refl w1.heap.size (w1)).alloc (Nat.le_refl _) (.cells #[.slice D8 R.1.rows.length d8, .slice (some ⟨S, 0, none⟩) W.ss.length cap] 25)).alloc (by simp [World.setCell]) (.cells #[.int .i64 R.2.kind, .string R.2.text, .int .i64 R.1.ss[i].st] 30)
      have hr9 := (H8.out).below b9
      have hb9 := (HB.out).trans (b9.mono (by rw [hz0]; have := HB.out.size; omega))
      have ho9 : ∀ b, b < w.heap.size → b ≠ S → (((w1).alloc (.cells #[.slice D8 R.1.rows.length d8, .slice (some ⟨S, 0, none⟩) W.ss.length cap] 25)).alloc (.cells #[.int .i64 R.2.kind, .string R.2.text, .int .i64 R.1.ss[i].st] 30)).heap[b]? = w.heap[b]? := fun b h1 h2 => (b9.block b (by rw [hz0]; have := HB.out.size; omega)).trans (HO.out b h1 h2)
      have R9 := (HR8.out).below b9 (by rw [hz0]; exact hRw)
      have A9 := (HA8.out).below b9 (by rw [hz0]; exact hAw)
      have m0 := (RowTo.whole (w1) #[.slice D8 R.1.rows.length d8, .slice (some ⟨S, 0, none⟩) W.ss.length cap] 25).alloc (.cells #[.int .i64 R.2.kind, .string R.2.text, .int .i64 R.1.ss[i].st] 30)
      have m1 := RowTo.whole ((w1).alloc (.cells #[.slice D8 R.1.rows.length d8, .slice (some ⟨S, 0, none⟩) W.ss.length cap] 25)) #[.int .i64 R.2.kind, .string R.2.text, .int .i64 R.1.ss[i].st] 30
      rw [hz0] at m0
      rw [show ((w1).alloc (.cells #[.slice D8 R.1.rows.length d8, .slice (some ⟨S, 0, none⟩) W.ss.length cap] 25)).heap.size = w1.heap.size + 1 by rw [World.size_alloc, hz0]] at m1
      have HR9 := Lib.hid hr9
      have HB9 := Lib.hid hb9
      have HO9 := Lib.hid ho9
      have HRR := Lib.hid R9
      have HAA := Lib.hid A9
      have HM0 := Lib.hid m0
      have HM1 := Lib.hid m1
      clear hr9 hb9 ho9 R9 A9 m0 m1 b9 hz0 s0 s4 f0 f4
      generalize ((w1).alloc (.cells #[.slice D8 R.1.rows.length d8, .slice (some ⟨S, 0, none⟩) W.ss.length cap] 25)).alloc (.cells #[.int .i64 R.2.kind, .string R.2.text, .int .i64 R.1.ss[i].st] 30) = W9 at *
      have q0 := HM0.out.cell (j := 0) (by simp)
      have q1 := HM0.out.cell (j := 1) (by simp)
      have p0 := HM1.out.cell (j := 0) (by simp)
      have p1 := HM1.out.cell (j := 1) (by simp)
      have p2 := HM1.out.cell (j := 2) (by simp)
      simp only [List.getElem_toArray, List.getElem_cons_zero, List.getElem_cons_succ] at q0 q1 p0 p1 p2
      have hOR : w1.heap.size ≠ w.heap.size + 1 + 1 := by omega
      have hOA : w1.heap.size ≠ w.heap.size + 1 + 1 + 1 := by omega
      have hPR : w1.heap.size + 1 ≠ w.heap.size + 1 + 1 := by omega
      have hPA : w1.heap.size + 1 ≠ w.heap.size + 1 + 1 + 1 := by omega
      have r0 := HRR.out.cell (j := 0) (by simp)
      have r1 := HRR.out.cell (j := 1) (by simp)
      have b0 := HAA.out.cell (j := 0) (by simp)
      have b1 := HAA.out.cell (j := 1) (by simp)
      have b2 := HAA.out.cell (j := 2) (by simp)
      have g0 := HRR.out.frozen 0
      have g1 := HRR.out.frozen 1
      have k0 := HAA.out.frozen 0
      have k1 := HAA.out.frozen 1
      have k2 := HAA.out.frozen 2
      simp only [List.getElem_cons_zero, List.getElem_cons_succ] at r0 r1 b0 b1 b2
      have HDM := Lib.hid (show doM W i k key val = R by rw [doM, ← HR.out]; simp only [getD_at hqi]; rw [if_neg HC.out])
      have HF := Lib.hid (fun x1 x2 x3 x4 x5 (w' : World) hh ht => dids_fin (w' := w') (n := W.ss.length) (R := R) (st := R.1.ss[i].st) hb hSw HR9.out HB9.out (fun b h1 h2 => HO9.out b h1 h2) HRR.out HAA.out x1 x2 x3 x4 x5 hh ht)
      have HSd := Lib.hid (show W9.drew.cell? ⟨w1.heap.size, 0, none⟩ = some (.slice D8 R.1.rows.length d8) ∧ W9.drew.cell? ⟨w1.heap.size, 1, none⟩ = some (.slice (some ⟨S, 0, none⟩) W.ss.length cap) ∧ W9.drew.cell? ⟨w1.heap.size + 1, 0, none⟩ = some (.int .i64 R.2.kind) ∧ W9.drew.cell? ⟨w1.heap.size + 1, 1, none⟩ = some (.string R.2.text) ∧ W9.drew.cell? ⟨w1.heap.size + 1, 2, none⟩ = some (.int .i64 R.1.ss[i].st) from ⟨q0, q1, p0, p1, p2⟩)
      go_region_held3 (fun wx => wx.cell? ⟨w1.heap.size, 0, none⟩ = some (.slice D8 R.1.rows.length d8) ∧ wx.cell? ⟨w1.heap.size, 1, none⟩ = some (.slice (some ⟨S, 0, none⟩) W.ss.length cap) ∧ wx.cell? ⟨w1.heap.size + 1, 0, none⟩ = some (.int .i64 R.2.kind) ∧ wx.cell? ⟨w1.heap.size + 1, 1, none⟩ = some (.string R.2.text) ∧ wx.cell? ⟨w1.heap.size + 1, 2, none⟩ = some (.int .i64 R.1.ss[i].st))
        (first
          | with_reducible exact ⟨q0, q1, p0, p1, p2⟩
          | with_reducible exact HSd.out
          | with_reducible exact ⟨cell_set3 (cell_set2 q0 hOR) hOA, cell_set3 (cell_set2 q1 hOR) hOA, cell_set3 (cell_set2 p0 hPR) hPA, cell_set3 (cell_set2 p1 hPR) hPA, cell_set3 (cell_set2 p2 hPR) hPA⟩
          | with_reducible exact ⟨cell_drew (cell_set3 (cell_set2 q0 hOR) hOA), cell_drew (cell_set3 (cell_set2 q1 hOR) hOA), cell_drew (cell_set3 (cell_set2 p0 hPR) hPA), cell_drew (cell_set3 (cell_set2 p1 hPR) hPA), cell_drew (cell_set3 (cell_set2 p2 hPR) hPA)⟩
          | with_reducible exact ⟨cell_drew (cell_set2 q0 hOR), cell_drew (cell_set2 q1 hOR), cell_drew (cell_set2 p0 hPR), cell_drew (cell_set2 p1 hPR), cell_drew (cell_set2 p2 hPR)⟩
          | with_reducible exact ⟨cell_set2 q0 hOR, cell_set2 q1 hOR, cell_set2 p0 hPR, cell_set2 p1 hPR, cell_set2 p2 hPR⟩)
        (fail)
      all_goals go_wp2
      all_goals refine bodyPost_ret (v := .tuple #[.agg #[.slice D8 R.1.rows.length d8, .slice (some ⟨S, 0, none⟩) W.ss.length cap], .agg #[.int .i64 R.2.kind, .string R.2.text, .int .i64 R.1.ss[i].st]]) (by simp [results, Tryd.results29, go_sem, r0, r1, b0, b1, b2]) rfl ?_
      all_goals rw [HDM.out]
      all_goals rw [getD_at hqi]
      all_goals exact HF.out (.slice D8 R.1.rows.length d8) (.slice (some ⟨S, 0, none⟩) W.ss.length cap) (.int .i64 R.2.kind) (.string R.2.text) (.int .i64 R.1.ss[i].st) _ (by rfl) ⟨by rfl, by rfl, by rfl⟩
end Go.Proofs.YtpbaobmegomfpabDoor

/-
  The reference's WorldCopy: what a round keeps.
-/
namespace Go.Proofs.YtpbaobmegomfpabDoor
open Go.RowKit
set_option linter.unusedVariables false
set_option linter.unusedSimpArgs false
set_option maxRecDepth 100000

/-- the cells of the first k sessions -/
def sflat (G : Nat → Nat → Value) (ss : List Sess) (k : Nat) : List Value := (List.range k).flatMap fun i => [.int .i64 (ss.getD i ⟨0, [], [], [], []⟩).st, G i 0, G i 1, G i 2, G i 3]
def GG (G : Nat → Nat → Value) (k : Nat) (u0 u1 u2 u3 : Value) : Nat → Nat → Value := fun i j => if i = k then (if j = 0 then u0 else if j = 1 then u1 else if j = 2 then u2 else u3) else G i j
theorem sflat_succ (G : Nat → Nat → Value) (ss : List Sess) (k : Nat) : sflat G ss (k + 1) = sflat G ss k ++ [.int .i64 (ss.getD k ⟨0, [], [], [], []⟩).st, G k 0, G k 1, G k 2, G k 3] := by
  unfold sflat; rw [List.range_succ, List.flatMap_append]; simp
theorem sflat_congr {G G' : Nat → Nat → Value} (ss : List Sess) : ∀ {k : Nat}, (∀ i j, i < k → G i j = G' i j) → sflat G ss k = sflat G' ss k
  | 0, _ => rfl
  | k + 1, h => by rw [sflat_succ, sflat_succ, sflat_congr ss (fun i j hi => h i j (by omega)), h k 0 (by omega), h k 1 (by omega), h k 2 (by omega), h k 3 (by omega)]
theorem sflat_step (G : Nat → Nat → Value) (ss : List Sess) {k : Nat} (hk : k < ss.length) (u0 u1 u2 u3 : Value) : sflat (GG G k u0 u1 u2 u3) ss (k + 1) = sflat G ss k ++ [.int .i64 ss[k].st, u0, u1, u2, u3] := by
  rw [sflat_succ, sflat_congr ss (G := GG G k u0 u1 u2 u3) (G' := G) (fun i j hi => by unfold GG; rw [if_neg (by omega)])]
  have : ss.getD k ⟨0, [], [], [], []⟩ = ss[k] := by rw [List.getD_eq_getElem?_getD, List.getElem?_eq_getElem hk]; rfl
  rw [this]; simp [GG]
theorem sflat_length (G : Nat → Nat → Value) (ss : List Sess) : ∀ k, (sflat G ss k).length = k * 5
  | 0 => rfl
  | k + 1 => by rw [sflat_succ, List.length_append, sflat_length G ss k]; simp; omega
theorem sflat_at (G : Nat → Nat → Value) (ss : List Sess) : ∀ {k i : Nat}, i < k → ∀ j, j < 5 → (sflat G ss k)[i * 5 + j]? = [.int .i64 (ss.getD i ⟨0, [], [], [], []⟩).st, G i 0, G i 1, G i 2, G i 3][j]?
  | 0, i, h, _, _ => absurd h (by omega)
  | k + 1, i, h, j, hj => by
    rw [sflat_succ]
    by_cases e : i = k
    · subst e
      rw [List.getElem?_append_right (by rw [sflat_length]; omega), sflat_length, show i * 5 + j - i * 5 = j by omega]
    · rw [List.getElem?_append_left (by rw [sflat_length]; omega)]
      exact sflat_at G ss (by omega) j hj

structure CRel (w wr : World) (W : Wd) (r s r1 : Value) (X k : Nat) (sv : Value) (G : Nat → Nat → Value) : Prop where
  box : RowTo wr w.heap.size 25 2 [r, s]
  res : RowTo wr (w.heap.size + 1) 25 2 [.slice none 0 0, .slice none 0 0]
  out : RowTo wr X 25 2 [r1, sv]
  own : wr.ownsRow (X + 1) 46 5 sv k (sflat G W.ss k)
  rows : Lst wr wr.heap.size r1 W.rows
  rin : InP (fun b => b < X ∧ w.heap.size + 1 < b) r1 W.rows
  lst : ∀ i j (h : i < W.ss.length), i < k → j < 4 → Lst wr wr.heap.size (G i j) (W.ss[i].li j) ∧ InP (fun b => X < b ∧ sv.ownBlock ≠ some b) (G i j) (W.ss[i].li j)
  bel : Below w.heap.size w wr
  hX : w.heap.size + 1 < X

theorem grown_setJ (w : World) (X j : Nat) (v : Value) : w.grownBy (w.setCell ⟨X, j, none⟩ v) (some X) :=
  ⟨rfl, rfl, rfl, by simp [World.setCell], fun k _ hne => Below.heap_setCell _ _ _ _ (fun e => hne (by rw [e]))⟩
theorem CRel.step {w wr w4 w5 : World} {W : Wd} {r s r1 sv : Value} {X k g cap : Nat} {G : Nat → Nat → Value} (h : CRel w wr W r s r1 X k sv G) (hk : k < W.ss.length) (b4 : Below wr.heap.size wr w4) {u0 u1 u2 u3 : Value}
    (l0 : Lst w4 w4.heap.size u0 W.ss[k].set) (l1 : Lst w4 w4.heap.size u1 W.ss[k].prep) (l2 : Lst w4 w4.heap.size u2 W.ss[k].sav) (l3 : Lst w4 w4.heap.size u3 W.ss[k].wr)
    (p0 : InP (fun b => wr.heap.size ≤ b) u0 W.ss[k].set) (p1 : InP (fun b => wr.heap.size ≤ b) u1 W.ss[k].prep) (p2 : InP (fun b => wr.heap.size ≤ b) u2 W.ss[k].sav) (p3 : InP (fun b => wr.heap.size ≤ b) u3 W.ss[k].wr)
    (hown : w5.ownsRow (X + 1) 46 5 (.slice (some ⟨g, 0, none⟩) (k + 1) cap) (k + 1) (sflat G W.ss k ++ [.int .i64 W.ss[k].st, u0, u1, u2, u3]))
    (hg : w4.grownBy w5 sv.ownBlock) (hat : sv.ownBlock = some g ∨ g = w4.heap.size) :
    CRel w (w5.setCell ⟨X, 1, none⟩ (.slice (some ⟨g, 0, none⟩) (k + 1) cap)) W r s r1 X (k + 1) (.slice (some ⟨g, 0, none⟩) (k + 1) cap) (GG G k u0 u1 u2 u3) := by
  have hXw := h.out.lt
  have hs4 := b4.size
  have hs5 := hg.size
  have hs6 : (w5.setCell ⟨X, 1, none⟩ (.slice (some ⟨g, 0, none⟩) (k + 1) cap)).heap.size = w5.heap.size := by simp [World.setCell]
  have hsv : ∀ b, sv.ownBlock = some b → X < b ∧ b < wr.heap.size := fun b hb => by have := h.own.lt b hb; omega
  have hgX : X < g ∧ g < w5.heap.size := by have := hown.lt g rfl; omega
  -- blocks of w4 other than the row's and X are as they were
  have k6 : ∀ b, b < w4.heap.size → sv.ownBlock ≠ some b → b ≠ X → (w5.setCell ⟨X, 1, none⟩ (.slice (some ⟨g, 0, none⟩) (k + 1) cap)).heap[b]? = w4.heap[b]? := fun b hb hne hX => by
    rw [Below.heap_setCell _ _ _ _ hX]; exact hg.block b hb (fun e => hne e.symm)
  have kr : ∀ b, b < wr.heap.size → sv.ownBlock ≠ some b → b ≠ X → (w5.setCell ⟨X, 1, none⟩ (.slice (some ⟨g, 0, none⟩) (k + 1) cap)).heap[b]? = wr.heap[b]? := fun b hb hne hX => (k6 b (by omega) hne hX).trans (b4.block b hb)
  have nlow : ∀ b, b ≤ X → sv.ownBlock ≠ some b := fun b hb e => by have := hsv b e; omega
  have hX := h.hX
  have nnew : ∀ b, wr.heap.size ≤ b → sv.ownBlock ≠ some b := fun b hb e => by have := hsv b e; omega
  have low : ∀ (b : Nat) {t n : Nat} {xs : List Value}, RowTo wr b t n xs → b < X → RowTo (w5.setCell ⟨X, 1, none⟩ (.slice (some ⟨g, 0, none⟩) (k + 1) cap)) b t n xs := fun b _ _ _ hr hb => hr.same (kr b hr.lt (nlow b (by omega)) (by omega))
  have hout5 : RowTo w5 X 25 2 [r1, sv] := h.out.same ((hg.block X (by omega) (fun e => nlow X (Nat.le_refl _) e.symm)).trans (b4.block X hXw))
  refine ⟨low _ h.box (by omega), low _ h.res (by omega), hout5.put (j := 1) (by simp) _, ?_, ?_, h.rin, fun i j hi hik hj => ?_, ?_, hX⟩
  · rw [sflat_step G W.ss hk]
    exact hown.kept (grown_setJ w5 X 1 _) (.inr (fun e => by injection e with e; dsimp only at e; omega))
  · refine h.rows.keepP (P := fun b => b < X ∧ b < wr.heap.size) ?_ (fun b hb => kr b hb.2 (nlow b (by omega)) (by omega)) (fun b hb => by rw [hs6]; omega)
    exact (own_lt h.rows h.rin).mono fun b hb => ⟨hb.1.1, hb.2⟩
  · by_cases e : i = k
    · subst e
      have new : ∀ {u : Value} {l : PL}, Lst w4 w4.heap.size u l → InP (fun b => wr.heap.size ≤ b) u l → Lst (w5.setCell ⟨X, 1, none⟩ (.slice (some ⟨g, 0, none⟩) (i + 1) cap)) (w5.setCell ⟨X, 1, none⟩ (.slice (some ⟨g, 0, none⟩) (i + 1) cap)).heap.size u l ∧ InP (fun b => X < b ∧ Value.ownBlock (.slice (some ⟨g, 0, none⟩) (i + 1) cap) ≠ some b) u l := fun hl hp => by
        refine ⟨hl.keepP (own_lt hl hp) (fun b hb => k6 b hb.2 (nnew b hb.1) (by omega)) (fun b hb => by rw [hs6]; omega), (own_lt hl hp).mono fun b hb => ⟨by omega, fun e => ?_⟩⟩
        injection e with e
        dsimp only at e
        rcases hat with h1 | h1
        · have := hsv g h1; omega
        · omega
      unfold GG
      rw [if_pos rfl]
      rcases j4 hj with rfl | rfl | rfl | rfl
      · exact new l0 p0
      · exact new l1 p1
      · exact new l2 p2
      · exact new l3 p3
    · obtain ⟨hl, hp⟩ := h.lst i j hi (by omega) hj
      unfold GG
      rw [if_neg e]
      refine ⟨hl.keepP (own_lt hl hp) (fun b hb => kr b hb.2 hb.1.2 (by omega)) (fun b hb => by rw [hs6]; omega), (own_lt hl hp).mono fun b hb => ⟨hb.1.1, fun e' => ?_⟩⟩
      injection e' with e'
      dsimp only at e'
      rcases hat with h1 | h1
      · exact hb.1.2 (by rw [← e']; exact h1)
      · omega
  · exact ((h.bel.trans (b4.mono h.bel.size)).grown hg (by have := h.bel.size; omega) (fun b hb => by have := hsv b hb; omega)).setCell (by show w.heap.size ≤ X; omega) _
/-- what WorldCopy leaves -/
structure CopyOut (w w' : World) (W : Wd) (r' s' : Value) : Prop where
  wld : Wld w' w'.heap.size r' s' W
  bel : Below w.heap.size w w'
  own : 0 < W.ss.length → ∃ S cap G, s' = .slice (some ⟨S, 0, none⟩) W.ss.length cap ∧ w.heap.size < S ∧ RowTo w' S 46 (cap * 5) (sflat G W.ss W.ss.length) ∧ W.ss.length ≤ cap ∧ InP (· ≠ S) r' W.rows ∧
    ∀ i j (h : i < W.ss.length), j < 4 → Lst w' w'.heap.size (G i j) (W.ss[i].li j) ∧ InP (· ≠ S) (G i j) (W.ss[i].li j)
theorem sflat_ses {w : World} {S n B : Nat} {G : Nat → Nat → Value} {ss : List Sess} (h : RowTo w S 46 n (sflat G ss ss.length)) (hl : ∀ i j (h : i < ss.length), j < 4 → Lst w B (G i j) (ss[i].li j)) {i : Nat} (hi : i < ss.length) : Ses w B S (i * 5) ss[i] (G i 0) (G i 1) (G i 2) (G i 3) := by
  have c : ∀ j, j < 5 → w.cell? ⟨S, i * 5 + j, none⟩ = [.int .i64 (ss.getD i ⟨0, [], [], [], []⟩).st, G i 0, G i 1, G i 2, G i 3][j]? := fun j hj => by
    have hlt : i * 5 + j < (sflat G ss ss.length).length := by rw [sflat_length]; omega
    rw [h.cell hlt, ← sflat_at G ss hi j hj, List.getElem?_eq_getElem hlt]
  have e : ss.getD i ⟨0, [], [], [], []⟩ = ss[i] := by rw [List.getD_eq_getElem?_getD, List.getElem?_eq_getElem hi]; rfl
  rw [e] at c
  exact ⟨c 0 (by omega), c 1 (by omega), c 2 (by omega), c 3 (by omega), c 4 (by omega), hl i 0 hi (by omega), hl i 1 hi (by omega), hl i 2 hi (by omega), hl i 3 hi (by omega)⟩
theorem CRel.fin {w wr w' : World} {W : Wd} {r s r1 sv : Value} {X : Nat} {G : Nat → Nat → Value} (h : CRel w wr W r s r1 X W.ss.length sv G) (hby : W.ss.length * 104 ≤ 140737488351232)
    (hw : w' = (wr.setCell ⟨w.heap.size + 1, 0, none⟩ r1).setCell ⟨w.heap.size + 1, 1, none⟩ sv) : CopyOut w w' W r1 sv := by
  have hX := h.hX
  have hs : w'.heap.size = wr.heap.size := by rw [hw]; simp [World.setCell]
  have hk : ∀ b, b ≠ w.heap.size + 1 → w'.heap[b]? = wr.heap[b]? := fun b hb => by rw [hw, Below.heap_setCell _ _ _ _ hb, Below.heap_setCell _ _ _ _ hb]
  have hsv : ∀ b, sv.ownBlock = some b → X < b ∧ b < wr.heap.size := fun b hb => by have := h.own.lt b hb; omega
  have hrows : Lst w' w'.heap.size r1 W.rows := h.rows.keepP (own_lt h.rows h.rin) (fun b hb => hk b (by omega)) (fun b hb => by rw [hs]; exact hb.2)
  have hl : ∀ i j (hi : i < W.ss.length), j < 4 → Lst w' w'.heap.size (G i j) (W.ss[i].li j) ∧ InP (fun b => X < b ∧ sv.ownBlock ≠ some b) (G i j) (W.ss[i].li j) := fun i j hi hj => by
    obtain ⟨a, b⟩ := h.lst i j hi hi hj
    exact ⟨a.keepP (own_lt a b) (fun c hc => hk c (by omega)) (fun c hc => by rw [hs]; exact hc.2), b⟩
  have bel : Below w.heap.size w w' := by rw [hw]; exact (h.bel.setCell (by show w.heap.size ≤ w.heap.size + 1; omega) _).setCell (by show w.heap.size ≤ w.heap.size + 1; omega) _
  obtain ⟨hlen, hv | ⟨g, cap, cur, hv, hg, hh, hc, hm, hz, hx⟩⟩ := h.own
  · obtain ⟨hv, hn⟩ := hv
    subst hv
    exact ⟨⟨hrows, ⟨none, 0, by rw [hn], by omega⟩, hby, fun hp => by omega⟩, bel, fun hp => by omega⟩
  · subst hv
    have hr : RowTo w' g 46 (cap * 5) (sflat G W.ss W.ss.length) := (show RowTo wr g 46 (cap * 5) (sflat G W.ss W.ss.length) from ⟨cur, hh, hz, by rw [sflat_length]; exact hx⟩).same (hk g (by omega))
    refine ⟨⟨hrows, ⟨_, cap, rfl, hc⟩, hby, fun _ => ⟨g, 0, cap, rfl, hr.lt, fun i hi => ?_⟩⟩, bel, fun _ => ⟨g, cap, G, rfl, by omega, hr, hc, h.rin.mono fun b hb => by omega, fun i j hi hj => ⟨(hl i j hi hj).1, (hl i j hi hj).2.mono fun b hb e => hb.2 (by rw [e]; rfl)⟩⟩⟩
    rw [Nat.zero_add]
    exact ⟨_, _, _, _, sflat_ses hr (fun i j hi hj => (hl i j hi hj).1) hi⟩
end Go.Proofs.YtpbaobmegomfpabDoor

/-
  A region that draws its order and whose last operation writes a cell that the region loads: a load may be taken first if the last operation waits for it, and what is known of the world is asked anew behind every operation but the last.
-/
namespace Go.Proofs.YtpbaobmegomfpabDoor
open Go
set_option linter.unusedVariables false

section
variable {P : Program} {ops : Array Oper} {Q : Exit → Act → World → Prop} {md : Region.Mode} {S : World → Prop} {z : Nat}

/-- whatever order is picked; S holds behind every operation but number z -/
def wpAnyZ (P : Program) (md : Region.Mode) (ops : Array Oper) (Q : Exit → Act → World → Prop) (S : World → Prop) (z : Nat) : Nat → Array Bool → Act → World → Prop
  | 0, listed, a, w => Region.ready md ops listed = [] ∧ Q .normal a w
  | fuel + 1, listed, a, w =>
    (Region.ready md ops listed = [] → Q .normal a w) ∧
    ∀ i ∈ Region.ready md ops listed, wpOp P ops Q i (fun a' w' => (i ≠ z → S w') ∧ wpAnyZ P md ops Q S z fuel (listed.setIfInBounds i true) a' w') a w

theorem wpAny_of_z : ∀ (fuel : Nat) (listed : Array Bool) (a : Act) (w : World), wpAnyZ P md ops Q S z fuel listed a w → wpAny P md ops Q fuel listed a w
  | 0, _, _, _, h => h
  | fuel + 1, _, _, _, h => ⟨h.1, fun i hi => wpOp_mono (fun a' w' h' => wpAny_of_z fuel _ a' w' h'.2) (h.2 i hi)⟩

/-- does operation z wait for operation i? -/
def waitsFor (md : Region.Mode) (ops : Array Oper) (z i : Nat) : Bool := match ops[z]? with
  | some oz => oz.after.any fun e => Region.binds md e && e.on == i
  | none => false

theorem wpAnyZ_first {i : Nat} {oi : Oper} {v : Value} (hi : ops[i]? = some oi) (hsel : ∀ (j : Nat) (o : Oper) cs b, ops[j]? = some o → o.op ≠ .select cs b) (hz : waitsFor md ops z i = true) (hiz : i ≠ z)
    (hQ : ∀ c a w, Q (.panic c) (a.put oi.dst v) w → Q (.panic c) a w) :
    ∀ (fuel : Nat) (listed : Array Bool) (a : Act) (w : World),
      (∀ j oj, ops[j]? = some oj → j ≠ i → listed.getD j true = false → (∀ e ∈ oj.after, Region.binds md e = true → e.on ≠ i) → oi.apart ops oj = true) →
      i ∈ Region.ready md ops listed → YieldsIf P ops S oi v a → S w →
      wpAnyZ P md ops Q S z fuel (listed.setIfInBounds i true) (a.put oi.dst v) w → wpAnyZ P md ops Q S z (fuel + 1) listed a w := by
  intro fuel
  induction fuel with
  | zero =>
    intro listed a w _ hr hy hS H
    refine ⟨fun h => (by rw [h] at hr; cases hr), fun j hj => ?_⟩
    by_cases hji : j = i
    · subst hji; exact hy.wpOp hi hS ⟨fun _ => hS, H⟩
    · have := ready_mono hj hji
      rw [H.1] at this
      cases this
  | succ fuel ih =>
    intro listed a w hfree hr hy hS H
    refine ⟨fun h => (by rw [h] at hr; cases hr), fun j hj => ?_⟩
    by_cases hji : j = i
    · subst hji; exact hy.wpOp hi hS ⟨fun _ => hS, H⟩
    · have h1 := H.2 j (ready_mono hj hji)
      obtain ⟨hjun, oj, hoj, hall⟩ := mem_ready.1 hj
      have hnot : ∀ e ∈ oj.after, Region.binds md e = true → e.on ≠ i := fun e he hb heq => by
        have h1 := hall e he hb
        have h0 := (mem_ready.1 hr).1
        rw [heq] at h1
        rcases Nat.lt_or_ge i listed.size with h' | h'
        · simp [h'] at h0 h1; rw [h0] at h1; cases h1
        · simp [Array.getElem?_eq_none h'] at h1
      have hjz : j ≠ z := fun e => by
        unfold waitsFor at hz
        rw [← e, hoj] at hz
        simp only [Array.any_eq_true'] at hz
        obtain ⟨x, hx, hb⟩ := hz
        simp only [Bool.and_eq_true, beq_iff_eq] at hb
        exact hnot x hx hb.1 hb.2
      have h2 := wpOp_putIf hoj (hfree j oj hoj hji hjun hnot) (fun cs b => hsel i oi cs b hi) (fun cs b => hsel j oj cs b hoj) hQ hy h1
      have hfree' : ∀ k ok, ops[k]? = some ok → k ≠ i → (listed.setIfInBounds j true).getD k true = false →
          (∀ e ∈ ok.after, Region.binds md e = true → e.on ≠ i) → oi.apart ops ok = true := fun k ok hk hki hun hno => by
        refine hfree k ok hk hki ?_ hno
        by_cases hjk : j = k
        · subst hjk; exact hjun
        · rw [getD_set_ne true hjk] at hun; exact hun
      refine wpOp_mono (fun a' w' h3 => ⟨h3.2.1, ih (listed.setIfInBounds j true) a' w' hfree' (ready_mono hr (Ne.symm hji)) h3.1 (h3.2.1 hjz) ?_⟩) h2
      rw [Array.setIfInBounds_comm _ _ hji]
      exact h3.2.2

/-- take number i first -/
theorem wpAnyZ_take {i : Nat} {oi : Oper} {v : Value} {fuel : Nat} {listed : Array Bool} {a : Act} {w : World} (hi : ops[i]? = some oi)
    (hs : Region.noSelect ops = true) (hf : Region.free md ops listed i = true) (hr : (Region.ready md ops listed).contains i = true) (hz : (waitsFor md ops z i && i != z) = true)
    (hQ : ∀ c a w, Q (.panic c) (a.put oi.dst v) w → Q (.panic c) a w) (hy : YieldsIf P ops S oi v a) (hS : S w)
    (h : wpAnyZ P md ops Q S z fuel (listed.setIfInBounds i true) (a.put oi.dst v) w) : wpAnyZ P md ops Q S z (fuel + 1) listed a w :=
  wpAnyZ_first hi (Region.noSelect_spec hs) (by simp only [Bool.and_eq_true] at hz; exact hz.1) (by simp only [Bool.and_eq_true, bne_iff_ne] at hz; exact hz.2) hQ fuel listed a w (Region.free_spec hi hf) (by simpa using hr) hy hS h
/-- number i alone may come up -/
theorem wpAnyZ_one {i : Nat} {o : Oper} {fuel : Nat} {listed : Array Bool} {a : Act} {w : World} (ho : ops[i]? = some o) (hg : o.guard = none) (hr : Region.ready md ops listed = [i])
    (h : ∀ K' : Act → World → Prop, Shut (∀ a w, S w → wpAnyZ P md ops Q S z fuel (listed.setIfInBounds i true) a w → K' a w) → Oper.wp P o a w K' Q) : wpAnyZ P md ops Q S z (fuel + 1) listed a w := by
  refine ⟨fun h0 => (by rw [hr] at h0; cases h0), fun j hj => ?_⟩
  rw [hr] at hj
  obtain rfl := List.mem_singleton.1 hj
  refine wpOp_step ho fun K' hK => ?_
  rw [if_pos (by simp [Region.wanted, hg])]
  exact h K' (fun a w hS hW => hK a w ⟨fun _ => hS, hW⟩)
/-- the last one -/
theorem wpAnyZ_last {o : Oper} {fuel : Nat} {listed : Array Bool} {a : Act} {w : World} (ho : ops[z]? = some o) (hg : o.guard = none) (hr : Region.ready md ops listed = [z]) (hr' : Region.ready md ops (listed.setIfInBounds z true) = [])
    (h : ∀ K' : Act → World → Prop, Shut (∀ a w, Q .normal a w → K' a w) → Oper.wp P o a w K' Q) : wpAnyZ P md ops Q S z (fuel + 1) listed a w := by
  refine ⟨fun h0 => (by rw [hr] at h0; cases h0), fun j hj => ?_⟩
  rw [hr] at hj
  obtain rfl := List.mem_singleton.1 hj
  refine wpOp_step ho fun K' hK => ?_
  rw [if_pos (by simp [Region.wanted, hg])]
  refine h K' (fun a w hq => hK a w ⟨fun hne => absurd rfl hne, ?_⟩)
  cases fuel with
  | zero => exact ⟨hr', hq⟩
  | succ n => exact ⟨fun _ => hq, by rw [hr']; simp⟩
/-- the beginning -/
theorem wp_region_z (z : Nat) (S : World → Prop) {id : Nat} {a : Act} {w : World} (hm : P.follows .mixedOrders = true) (hS : S w.drew)
    (h : S w.drew → wpAnyZ P .any ops Q S z ops.size (Array.replicate ops.size false) a w.drew) : (Code.region id ops true).wp P Q a w :=
  wp_region_any hm (wpAny_of_z _ _ _ _ (h hS))
end
end Go.Proofs.YtpbaobmegomfpabDoor

/-
  The reference's WorldCopy: its walk.
-/
namespace Go.Proofs.YtpbaobmegomfpabDoor
open Go.RowKit
set_option linter.unusedVariables false
set_option linter.unusedSimpArgs false
set_option maxRecDepth 100000

theorem own_form2 {w : World} {base t n k : Nat} {v : Value} {xs : List Value} (h : w.ownsRow base t k v n xs) : ∃ A c, v = .slice A n c := by
  obtain ⟨_, ⟨rfl, rfl⟩ | ⟨g, cap, cur, rfl, _⟩⟩ := h
  · exact ⟨_, _, rfl⟩
  · exact ⟨_, _, rfl⟩
theorem own_bel {w w' : World} {base e n m : Nat} {v : Value} {xs : List Value} (h : w.ownsRow base e n v m xs) (hb : Below w.heap.size w w') : w'.ownsRow base e n v m xs := by
  obtain ⟨h1, h2 | ⟨g, cap, cur, hv, hg, hh, r⟩⟩ := h
  · exact ⟨h1, .inl h2⟩
  · exact ⟨h1, .inr ⟨g, cap, cur, hv, hg, (hb.block g (Array.getElem?_eq_some_iff.1 hh).1).trans hh, r⟩⟩
theorem cell_al {w : World} {o : Obj} {p : Addr} {v : Value} (hp : p.block < w.heap.size) (h : w.cell? p = some v) : (w.alloc o).cell? p = some v := (World.cell?_alloc_lt w o p hp).trans h
theorem cell_st {w : World} {p q : Addr} {u v : Value} (hp : p.block ≠ q.block) (h : w.cell? q = some v) : (w.setCell p u).cell? q = some v := (World.cell?_setCell_other _ _ _ _ (fun e => hp (by rw [e]))).trans h
set_option maxHeartbeats 8000000 in
theorem worldCopy_any (r s : Value) (W : Wd) (w : World) (hW : Wld w w.heap.size r s W) :
    Calls Tryd.prog 9 #[.agg #[r, s]] w fun e w' => ∃ r' s', e = .returned (.agg #[r', s']) ∧ CopyOut w w' W r' s' := by
  obtain ⟨hr, hs⟩ := hW
  obtain ⟨A, c, rfl, hc⟩ := hs.form
  obtain ⟨D, d, rfl, hd⟩ := hr.form
  have HS := Lib.hid hs
  have HR := Lib.hid hr
  have hby := hs.bytes
  obtain ⟨i0, hi, hz0, hz1, hz2⟩ := info_parts sess_info
  have HI := Lib.hid (And.intro hi (And.intro hz0 (And.intro hz1 hz2)))
  clear hs hr hi hz0 hz1 hz2
  go_enter Tryd.func9, Tryd.ntmps9
  go_wp2_with fail
  have b0 : Below w.heap.size w ((w.alloc (.cells #[.slice D W.rows.length d, .slice A W.ss.length c] 25)).alloc (.cells #[.slice none 0 0, .slice none 0 0] 25)) := ((Below.refl _ _).alloc (Nat.le_refl _) _).alloc (by simp) _
  have X0 := (RowTo.whole w #[.slice D W.rows.length d, .slice A W.ss.length c] 25).alloc (.cells #[.slice none 0 0, .slice none 0 0] 25)
  have Y0 := RowTo.whole (w.alloc (.cells #[.slice D W.rows.length d, .slice A W.ss.length c] 25)) #[.slice none 0 0, .slice none 0 0] 25
  rw [World.size_alloc] at Y0
  refine (pairs_any _ W.rows _ (HR.out.step b0)).mono ?_
  rintro e w1 ⟨v1, rfl, ho1, hy1⟩
  have hz1 : w.heap.size + 1 < w1.heap.size := by have := hy1.size; simp at this; omega
  have HX1 := Lib.hid (X0.below hy1 X0.lt)
  have HY1 := Lib.hid (Y0.below hy1 Y0.lt)
  have HB1 := Lib.hid (bel_add' b0 hy1 b0.size)
  have HL1 := Lib.hid (own_lst ho1 HR.out.bytes HR.out.sizes)
  have HP1 := Lib.hid ((own_inP ho1).mono (Q := fun b => b < w1.heap.size ∧ w.heap.size + 1 < b) fun b hb => ⟨hb.2, by have := hb.1; simp at this; omega⟩)
  obtain ⟨A1, c1, rfl⟩ := own_form2 ho1
  clear hy1 b0 X0 Y0 ho1
  go_wp2
  go_loopw [4] (fun i wr => ∃ k : Nat, k ≤ W.ss.length ∧ i = .int .i64 k ∧ Hid (∃ sv G, CRel w wr W (.slice D W.rows.length d) (.slice A W.ss.length c) (.slice A1 W.rows.length c1) w1.heap.size k sv G)) (fun i _ => W.ss.length - (intOf i).toNat)
  case atStart =>
    have bn := (Below.refl w1.heap.size w1).alloc (Nat.le_refl _) (.cells #[.slice A1 W.rows.length c1, .slice none 0 0] 25)
    refine ⟨0, by omega, rfl, .slice none 0 0, fun _ _ => .slice none 0 0, HX1.out.alloc _, HY1.out.alloc _, RowTo.whole w1 #[.slice A1 W.rows.length c1, .slice none 0 0] _, World.ownsRow_nil _ _ _ _, HL1.out.step bn, HP1.out, fun i j _ h => absurd h (by omega), bel_add' HB1.out bn HB1.out.size, hz1⟩
  case round =>
    obtain ⟨k, hk, rfl, hR⟩ := hrel
    obtain ⟨sv, G, hR⟩ := hR.out
    have HC := Lib.hid hR
    obtain ⟨As, cs, rfl⟩ := own_form2 hR.own
    have hXw := hR.out.lt
    have hbw := hR.box.lt
    have hX := hR.hX
    have hsz := hR.bel.size
    by_cases hlt : k < W.ss.length
    · obtain ⟨b, off, v1, v2, v3, v4, rfl, hb, hses⟩ := HS.out.pt hlt
      generalize hsk : W.ss[k] = s at *
      have HK := Lib.hid hsk
      clear hsk
      obtain ⟨d0, d1, d2, d3, d4, l1, l2, l3, l4⟩ := hses.keep (w' := wr) hb (Nat.le_refl _) fun p hp => hR.bel.cell hp
      obtain ⟨A5, c5, rfl, _⟩ := l1.form
      obtain ⟨A6, c6, rfl, _⟩ := l2.form
      obtain ⟨A7, c7, rfl, _⟩ := l3.form
      obtain ⟨A8, c8, rfl, _⟩ := l4.form
      have L1 := Lib.hid hses.l1
      have L2 := Lib.hid hses.l2
      have L3 := Lib.hid hses.l3
      have L4 := Lib.hid hses.l4
      have x0 := hR.box.cell (j := 0) (by simp)
      have x1 := hR.box.cell (j := 1) (by simp)
      simp only [List.getElem_cons_zero, List.getElem_cons_succ] at x0 x1
      have HO := Lib.hid hR.out
      have HOW := Lib.hid hR.own
      have HB := Lib.hid hR.bel
      clear hR hses l1 l2 l3 l4
      go_wp2
      clear d0 d1 d2 d3 d4 x0 x1
      have e0 := cell_neu wr #[.int .i64 s.st, .slice A5 s.set.length c5, .slice A6 s.prep.length c6, .slice A7 s.sav.length c7, .slice A8 s.wr.length c8] 46 0 (by simp)
      have e1 := cell_neu wr #[.int .i64 s.st, .slice A5 s.set.length c5, .slice A6 s.prep.length c6, .slice A7 s.sav.length c7, .slice A8 s.wr.length c8] 46 1 (by simp)
      have e2 := cell_neu wr #[.int .i64 s.st, .slice A5 s.set.length c5, .slice A6 s.prep.length c6, .slice A7 s.sav.length c7, .slice A8 s.wr.length c8] 46 2 (by simp)
      have e3 := cell_neu wr #[.int .i64 s.st, .slice A5 s.set.length c5, .slice A6 s.prep.length c6, .slice A7 s.sav.length c7, .slice A8 s.wr.length c8] 46 3 (by simp)
      have e4 := cell_neu wr #[.int .i64 s.st, .slice A5 s.set.length c5, .slice A6 s.prep.length c6, .slice A7 s.sav.length c7, .slice A8 s.wr.length c8] 46 4 (by simp)
      simp only [List.getElem_toArray, List.getElem_cons_zero, List.getElem_cons_succ] at e0 e1 e2 e3 e4
      have o1 := cell_al (o := .cells #[.int .i64 s.st, .slice A5 s.set.length c5, .slice A6 s.prep.length c6, .slice A7 s.sav.length c7, .slice A8 s.wr.length c8] 46) (p := ⟨w1.heap.size, 1, none⟩) hXw (HO.out.cell (j := 1) (by simp))
      simp only [List.getElem_cons_zero, List.getElem_cons_succ] at o1
      have HO0 := Lib.hid (HO.out.alloc (.cells #[.int .i64 s.st, .slice A5 s.set.length c5, .slice A6 s.prep.length c6, .slice A7 s.sav.length c7, .slice A8 s.wr.length c8] 46))
      have HOW0 := Lib.hid (HOW.out.alloc (.cells #[.int .i64 s.st, .slice A5 s.set.length c5, .slice A6 s.prep.length c6, .slice A7 s.sav.length c7, .slice A8 s.wr.length c8] 46))
      have A0 := Lib.hid ((Below.refl wr.heap.size wr).alloc (Nat.le_refl _) (.cells #[.int .i64 s.st, .slice A5 s.set.length c5, .slice A6 s.prep.length c6, .slice A7 s.sav.length c7, .slice A8 s.wr.length c8] 46))
      have B0 := Lib.hid (HB.out.alloc HB.out.size (.cells #[.int .i64 s.st, .slice A5 s.set.length c5, .slice A6 s.prep.length c6, .slice A7 s.sav.length c7, .slice A8 s.wr.length c8] 46))
      have hz0 : wr.heap.size < (wr.alloc (.cells #[.int .i64 s.st, .slice A5 s.set.length c5, .slice A6 s.prep.length c6, .slice A7 s.sav.length c7, .slice A8 s.wr.length c8] 46)).heap.size := by simp
      have hX0 : w1.heap.size < (wr.alloc (.cells #[.int .i64 s.st, .slice A5 s.set.length c5, .slice A6 s.prep.length c6, .slice A7 s.sav.length c7, .slice A8 s.wr.length c8] 46)).heap.size := Nat.lt_trans hXw hz0
      have hne5 : some wr.heap.size ≠ (Value.slice As k cs).ownBlock := fun e => by have := (HOW.out.lt _ e.symm).2; omega
      have hneX : some w1.heap.size ≠ (Value.slice As k cs).ownBlock := fun e => by have := (HOW.out.lt _ e.symm).1; omega
      generalize wr.alloc (.cells #[.int .i64 s.st, .slice A5 s.set.length c5, .slice A6 s.prep.length c6, .slice A7 s.sav.length c7, .slice A8 s.wr.length c8] 46) = W0 at *
      have hYX : w1.heap.size ≠ wr.heap.size := by omega
      have kb := Below.refl W0.heap.size W0
      have kbw := B0.out
      have hq0 : wr.heap.size ≤ W0.heap.size := by omega
      refine wp_region_z 20 (fun wx => wx.cell? ⟨wr.heap.size, 0, none⟩ = some (.int .i64 s.st) ∧ wx.cell? ⟨wr.heap.size, 1, none⟩ = some (.slice A5 s.set.length c5) ∧ wx.cell? ⟨wr.heap.size, 2, none⟩ = some (.slice A6 s.prep.length c6) ∧ wx.cell? ⟨wr.heap.size, 3, none⟩ = some (.slice A7 s.sav.length c7) ∧ wx.cell? ⟨wr.heap.size, 4, none⟩ = some (.slice A8 s.wr.length c8) ∧ wx.cell? ⟨w1.heap.size, 1, none⟩ = some (.slice As k cs)) (by kernel_rfl) (show W0.drew.cell? ⟨wr.heap.size, 0, none⟩ = some (.int .i64 s.st) ∧ W0.drew.cell? ⟨wr.heap.size, 1, none⟩ = some (.slice A5 s.set.length c5) ∧ W0.drew.cell? ⟨wr.heap.size, 2, none⟩ = some (.slice A6 s.prep.length c6) ∧ W0.drew.cell? ⟨wr.heap.size, 3, none⟩ = some (.slice A7 s.sav.length c7) ∧ W0.drew.cell? ⟨wr.heap.size, 4, none⟩ = some (.slice A8 s.wr.length c8) ∧ W0.drew.cell? ⟨w1.heap.size, 1, none⟩ = some (.slice As k cs) from ⟨e0, e1, e2, e3, e4, o1⟩) (fun hS => ?_)
      refine wpAnyZ_take (i := 0) (v := ?v0) rfl (by kernel_rfl) (by kernel_rfl) (by kernel_rfl) (by kernel_rfl) (fun _ _ _ h => h) (Or.inl ⟨by rfl, ?y0⟩) hS ?r0
      case y0 => (intro w hSw; (try dsimp only at hSw); (try simp only [List.getElem_toArray, List.getElem_cons_zero, List.getElem_cons_succ]); go_simp; try with_reducible rfl)
      (try simp only [List.getElem_toArray, List.getElem_cons_zero, List.getElem_cons_succ, Act.put, List.setIfInBounds_toArray, List.set_cons_zero, List.set_cons_succ])
      refine wpAnyZ_take (i := 1) (v := ?v1) rfl (by kernel_rfl) (by kernel_rfl) (by kernel_rfl) (by kernel_rfl) (fun _ _ _ h => h) (Or.inl ⟨by rfl, ?y1⟩) hS ?r1
      case y1 => (intro w hSw; (try dsimp only at hSw); (try simp only [List.getElem_toArray, List.getElem_cons_zero, List.getElem_cons_succ]); go_simp; try with_reducible rfl)
      (try simp only [List.getElem_toArray, List.getElem_cons_zero, List.getElem_cons_succ, Act.put, List.setIfInBounds_toArray, List.set_cons_zero, List.set_cons_succ])
      refine wpAnyZ_take (i := 2) (v := ?v2) rfl (by kernel_rfl) (by kernel_rfl) (by kernel_rfl) (by kernel_rfl) (fun _ _ _ h => h) (Or.inl ⟨by rfl, ?y2⟩) hS ?r2
      case y2 => (intro w hSw; (try dsimp only at hSw); (try simp only [List.getElem_toArray, List.getElem_cons_zero, List.getElem_cons_succ]); go_simp; try with_reducible rfl)
      (try simp only [List.getElem_toArray, List.getElem_cons_zero, List.getElem_cons_succ, Act.put, List.setIfInBounds_toArray, List.set_cons_zero, List.set_cons_succ])
      refine wpAnyZ_take (i := 3) (v := ?v3) rfl (by kernel_rfl) (by kernel_rfl) (by kernel_rfl) (by kernel_rfl) (fun _ _ _ h => h) (Or.inl ⟨by rfl, ?y3⟩) hS ?r3
      case y3 => (intro w hSw; (try dsimp only at hSw); (try simp only [List.getElem_toArray, List.getElem_cons_zero, List.getElem_cons_succ]); go_simp; try with_reducible rfl)
      (try simp only [List.getElem_toArray, List.getElem_cons_zero, List.getElem_cons_succ, Act.put, List.setIfInBounds_toArray, List.set_cons_zero, List.set_cons_succ])
      refine wpAnyZ_take (i := 4) (v := ?v4) rfl (by kernel_rfl) (by kernel_rfl) (by kernel_rfl) (by kernel_rfl) (fun _ _ _ h => h) (Or.inl ⟨by rfl, ?y4⟩) hS ?r4
      case y4 => (intro w hSw; (try dsimp only at hSw); (try simp only [List.getElem_toArray, List.getElem_cons_zero, List.getElem_cons_succ]); go_simp; try with_reducible rfl)
      (try simp only [List.getElem_toArray, List.getElem_cons_zero, List.getElem_cons_succ, Act.put, List.setIfInBounds_toArray, List.set_cons_zero, List.set_cons_succ])
      refine wpAnyZ_take (i := 5) (v := ?v5) rfl (by kernel_rfl) (by kernel_rfl) (by kernel_rfl) (by kernel_rfl) (fun _ _ _ h => h) (Or.inl ⟨by rfl, ?y5⟩) hS ?r5
      case y5 => (intro w hSw; (try dsimp only at hSw); (try simp only [List.getElem_toArray, List.getElem_cons_zero, List.getElem_cons_succ]); go_simp; try with_reducible rfl)
      (try simp only [List.getElem_toArray, List.getElem_cons_zero, List.getElem_cons_succ, Act.put, List.setIfInBounds_toArray, List.set_cons_zero, List.set_cons_succ])
      refine wpAnyZ_take (i := 7) (v := ?v7) rfl (by kernel_rfl) (by kernel_rfl) (by kernel_rfl) (by kernel_rfl) (fun _ _ _ h => h) (Or.inl ⟨by rfl, ?y7⟩) hS ?r7
      case y7 => (intro w hSw; (try dsimp only at hSw); (try simp only [List.getElem_toArray, List.getElem_cons_zero, List.getElem_cons_succ]); go_simp; try with_reducible rfl)
      (try simp only [List.getElem_toArray, List.getElem_cons_zero, List.getElem_cons_succ, Act.put, List.setIfInBounds_toArray, List.set_cons_zero, List.set_cons_succ])
      refine wpAnyZ_take (i := 8) (v := ?v8) rfl (by kernel_rfl) (by kernel_rfl) (by kernel_rfl) (by kernel_rfl) (fun _ _ _ h => h) (Or.inl ⟨by rfl, ?y8⟩) hS ?r8
      case y8 => (intro w hSw; (try dsimp only at hSw); (try simp only [List.getElem_toArray, List.getElem_cons_zero, List.getElem_cons_succ]); go_simp; try with_reducible rfl)
      (try simp only [List.getElem_toArray, List.getElem_cons_zero, List.getElem_cons_succ, Act.put, List.setIfInBounds_toArray, List.set_cons_zero, List.set_cons_succ])
      refine wpAnyZ_take (i := 10) (v := ?v10) rfl (by kernel_rfl) (by kernel_rfl) (by kernel_rfl) (by kernel_rfl) (fun _ _ _ h => h) (Or.inl ⟨by rfl, ?y10⟩) hS ?r10
      case y10 => (intro w hSw; (try dsimp only at hSw); (try simp only [List.getElem_toArray, List.getElem_cons_zero, List.getElem_cons_succ]); go_simp; try with_reducible rfl)
      (try simp only [List.getElem_toArray, List.getElem_cons_zero, List.getElem_cons_succ, Act.put, List.setIfInBounds_toArray, List.set_cons_zero, List.set_cons_succ])
      refine wpAnyZ_take (i := 11) (v := ?v11) rfl (by kernel_rfl) (by kernel_rfl) (by kernel_rfl) (by kernel_rfl) (fun _ _ _ h => h) (Or.inl ⟨by rfl, ?y11⟩) hS ?r11
      case y11 => (intro w hSw; (try dsimp only at hSw); (try simp only [List.getElem_toArray, List.getElem_cons_zero, List.getElem_cons_succ]); go_simp; try with_reducible rfl)
      (try simp only [List.getElem_toArray, List.getElem_cons_zero, List.getElem_cons_succ, Act.put, List.setIfInBounds_toArray, List.set_cons_zero, List.set_cons_succ])
      refine wpAnyZ_take (i := 13) (v := ?v13) rfl (by kernel_rfl) (by kernel_rfl) (by kernel_rfl) (by kernel_rfl) (fun _ _ _ h => h) (Or.inl ⟨by rfl, ?y13⟩) hS ?r13
      case y13 => (intro w hSw; (try dsimp only at hSw); (try simp only [List.getElem_toArray, List.getElem_cons_zero, List.getElem_cons_succ]); go_simp; try with_reducible rfl)
      (try simp only [List.getElem_toArray, List.getElem_cons_zero, List.getElem_cons_succ, Act.put, List.setIfInBounds_toArray, List.set_cons_zero, List.set_cons_succ])
      refine wpAnyZ_take (i := 14) (v := ?v14) rfl (by kernel_rfl) (by kernel_rfl) (by kernel_rfl) (by kernel_rfl) (fun _ _ _ h => h) (Or.inl ⟨by rfl, ?y14⟩) hS ?r14
      case y14 => (intro w hSw; (try dsimp only at hSw); (try simp only [List.getElem_toArray, List.getElem_cons_zero, List.getElem_cons_succ]); go_simp; try with_reducible rfl)
      (try simp only [List.getElem_toArray, List.getElem_cons_zero, List.getElem_cons_succ, Act.put, List.setIfInBounds_toArray, List.set_cons_zero, List.set_cons_succ])
      refine wpAnyZ_one (i := 6) rfl rfl (by kernel_rfl) (fun K hK => ?_)
      (try simp only [List.getElem_toArray, List.getElem_cons_zero, List.getElem_cons_succ])
      go_simp
      refine (pairs_any (.slice A5 s.set.length c5) s.set _ ?c0).mono ?d0
      case c0 => first | exact L1.out.step kbw | exact L1.out.step kbw.drew
      rintro e w3 ⟨u, rfl, ho, hy⟩
      obtain ⟨D0, k0, rfl⟩ := own_form2 ho
      replace kb : Below W0.heap.size W0 w3 := by first | exact bel_add kb hy kb.size | exact bel_addN kb hy kb.size
      replace kbw : Below w.heap.size w w3 := bel_add B0.out kb B0.out.size
      have hlo := hy.size
      have Q0 := Lib.hid (And.intro (own_lst ho L1.out.bytes L1.out.sizes) ((own_inP ho).mono (Q := fun b => wr.heap.size ≤ b) fun b hb => by first | exact Nat.le_trans hq0 hb.1 | exact hb.1))
      replace hq0 : wr.heap.size ≤ w3.heap.size := by first | exact Nat.le_trans hq0 hlo | omega
      clear ho hy hlo
      go_simp
      have hS2 := show w3.cell? ⟨wr.heap.size, 0, none⟩ = some (.int .i64 s.st) ∧ w3.cell? ⟨wr.heap.size, 1, none⟩ = some (.slice A5 s.set.length c5) ∧ w3.cell? ⟨wr.heap.size, 2, none⟩ = some (.slice A6 s.prep.length c6) ∧ w3.cell? ⟨wr.heap.size, 3, none⟩ = some (.slice A7 s.sav.length c7) ∧ w3.cell? ⟨wr.heap.size, 4, none⟩ = some (.slice A8 s.wr.length c8) ∧ w3.cell? ⟨w1.heap.size, 1, none⟩ = some (.slice As k cs) from ⟨(kb.cell (p := ⟨wr.heap.size, 0, none⟩) hz0).trans e0, (kb.cell (p := ⟨wr.heap.size, 1, none⟩) hz0).trans e1, (kb.cell (p := ⟨wr.heap.size, 2, none⟩) hz0).trans e2, (kb.cell (p := ⟨wr.heap.size, 3, none⟩) hz0).trans e3, (kb.cell (p := ⟨wr.heap.size, 4, none⟩) hz0).trans e4, (kb.cell (p := ⟨w1.heap.size, 1, none⟩) hX0).trans o1⟩
      refine hK.out _ _ hS2 ?_
      clear hK K hS
      have hS := hS2
      clear hS2
      (try simp only [List.getElem_toArray, List.getElem_cons_zero, List.getElem_cons_succ, Act.put, List.setIfInBounds_toArray, List.set_cons_zero, List.set_cons_succ])
      refine wpAnyZ_one (i := 9) rfl rfl (by kernel_rfl) (fun K hK => ?_)
      (try simp only [List.getElem_toArray, List.getElem_cons_zero, List.getElem_cons_succ])
      go_simp
      refine (pairs_any (.slice A6 s.prep.length c6) s.prep _ ?c1).mono ?d1
      case c1 => first | exact L2.out.step kbw | exact L2.out.step kbw.drew
      rintro e w3 ⟨u, rfl, ho, hy⟩
      obtain ⟨D1, k1, rfl⟩ := own_form2 ho
      replace kb : Below W0.heap.size W0 w3 := by first | exact bel_add kb hy kb.size | exact bel_addN kb hy kb.size
      replace kbw : Below w.heap.size w w3 := bel_add B0.out kb B0.out.size
      have hlo := hy.size
      have Q1 := Lib.hid (And.intro (own_lst ho L2.out.bytes L2.out.sizes) ((own_inP ho).mono (Q := fun b => wr.heap.size ≤ b) fun b hb => by first | exact Nat.le_trans hq0 hb.1 | exact hb.1))
      replace hq0 : wr.heap.size ≤ w3.heap.size := by first | exact Nat.le_trans hq0 hlo | omega
      replace Q0 := Lib.hid (And.intro (Q0.out.1.step hy) Q0.out.2)
      clear ho hy hlo
      go_simp
      have hS2 := show w3.cell? ⟨wr.heap.size, 0, none⟩ = some (.int .i64 s.st) ∧ w3.cell? ⟨wr.heap.size, 1, none⟩ = some (.slice A5 s.set.length c5) ∧ w3.cell? ⟨wr.heap.size, 2, none⟩ = some (.slice A6 s.prep.length c6) ∧ w3.cell? ⟨wr.heap.size, 3, none⟩ = some (.slice A7 s.sav.length c7) ∧ w3.cell? ⟨wr.heap.size, 4, none⟩ = some (.slice A8 s.wr.length c8) ∧ w3.cell? ⟨w1.heap.size, 1, none⟩ = some (.slice As k cs) from ⟨(kb.cell (p := ⟨wr.heap.size, 0, none⟩) hz0).trans e0, (kb.cell (p := ⟨wr.heap.size, 1, none⟩) hz0).trans e1, (kb.cell (p := ⟨wr.heap.size, 2, none⟩) hz0).trans e2, (kb.cell (p := ⟨wr.heap.size, 3, none⟩) hz0).trans e3, (kb.cell (p := ⟨wr.heap.size, 4, none⟩) hz0).trans e4, (kb.cell (p := ⟨w1.heap.size, 1, none⟩) hX0).trans o1⟩
      refine hK.out _ _ hS2 ?_
      clear hK K hS
      have hS := hS2
      clear hS2
      (try simp only [List.getElem_toArray, List.getElem_cons_zero, List.getElem_cons_succ, Act.put, List.setIfInBounds_toArray, List.set_cons_zero, List.set_cons_succ])
      refine wpAnyZ_one (i := 12) rfl rfl (by kernel_rfl) (fun K hK => ?_)
      (try simp only [List.getElem_toArray, List.getElem_cons_zero, List.getElem_cons_succ])
      go_simp
      refine (pairs_any (.slice A7 s.sav.length c7) s.sav _ ?c2).mono ?d2
      case c2 => first | exact L3.out.step kbw | exact L3.out.step kbw.drew
      rintro e w3 ⟨u, rfl, ho, hy⟩
      obtain ⟨D2, k2, rfl⟩ := own_form2 ho
      replace kb : Below W0.heap.size W0 w3 := by first | exact bel_add kb hy kb.size | exact bel_addN kb hy kb.size
      replace kbw : Below w.heap.size w w3 := bel_add B0.out kb B0.out.size
      have hlo := hy.size
      have Q2 := Lib.hid (And.intro (own_lst ho L3.out.bytes L3.out.sizes) ((own_inP ho).mono (Q := fun b => wr.heap.size ≤ b) fun b hb => by first | exact Nat.le_trans hq0 hb.1 | exact hb.1))
      replace hq0 : wr.heap.size ≤ w3.heap.size := by first | exact Nat.le_trans hq0 hlo | omega
      replace Q0 := Lib.hid (And.intro (Q0.out.1.step hy) Q0.out.2)
      replace Q1 := Lib.hid (And.intro (Q1.out.1.step hy) Q1.out.2)
      clear ho hy hlo
      go_simp
      have hS2 := show w3.cell? ⟨wr.heap.size, 0, none⟩ = some (.int .i64 s.st) ∧ w3.cell? ⟨wr.heap.size, 1, none⟩ = some (.slice A5 s.set.length c5) ∧ w3.cell? ⟨wr.heap.size, 2, none⟩ = some (.slice A6 s.prep.length c6) ∧ w3.cell? ⟨wr.heap.size, 3, none⟩ = some (.slice A7 s.sav.length c7) ∧ w3.cell? ⟨wr.heap.size, 4, none⟩ = some (.slice A8 s.wr.length c8) ∧ w3.cell? ⟨w1.heap.size, 1, none⟩ = some (.slice As k cs) from ⟨(kb.cell (p := ⟨wr.heap.size, 0, none⟩) hz0).trans e0, (kb.cell (p := ⟨wr.heap.size, 1, none⟩) hz0).trans e1, (kb.cell (p := ⟨wr.heap.size, 2, none⟩) hz0).trans e2, (kb.cell (p := ⟨wr.heap.size, 3, none⟩) hz0).trans e3, (kb.cell (p := ⟨wr.heap.size, 4, none⟩) hz0).trans e4, (kb.cell (p := ⟨w1.heap.size, 1, none⟩) hX0).trans o1⟩
      refine hK.out _ _ hS2 ?_
      clear hK K hS
      have hS := hS2
      clear hS2
      (try simp only [List.getElem_toArray, List.getElem_cons_zero, List.getElem_cons_succ, Act.put, List.setIfInBounds_toArray, List.set_cons_zero, List.set_cons_succ])
      refine wpAnyZ_one (i := 15) rfl rfl (by kernel_rfl) (fun K hK => ?_)
      (try simp only [List.getElem_toArray, List.getElem_cons_zero, List.getElem_cons_succ])
      go_simp
      refine (pairs_any (.slice A8 s.wr.length c8) s.wr _ ?c3).mono ?d3
      case c3 => first | exact L4.out.step kbw | exact L4.out.step kbw.drew
      rintro e w3 ⟨u, rfl, ho, hy⟩
      obtain ⟨D3, k3, rfl⟩ := own_form2 ho
      replace kb : Below W0.heap.size W0 w3 := by first | exact bel_add kb hy kb.size | exact bel_addN kb hy kb.size
      replace kbw : Below w.heap.size w w3 := bel_add B0.out kb B0.out.size
      have hlo := hy.size
      have Q3 := Lib.hid (And.intro (own_lst ho L4.out.bytes L4.out.sizes) ((own_inP ho).mono (Q := fun b => wr.heap.size ≤ b) fun b hb => by first | exact Nat.le_trans hq0 hb.1 | exact hb.1))
      replace hq0 : wr.heap.size ≤ w3.heap.size := by first | exact Nat.le_trans hq0 hlo | omega
      replace Q0 := Lib.hid (And.intro (Q0.out.1.step hy) Q0.out.2)
      replace Q1 := Lib.hid (And.intro (Q1.out.1.step hy) Q1.out.2)
      replace Q2 := Lib.hid (And.intro (Q2.out.1.step hy) Q2.out.2)
      clear ho hy hlo
      go_simp
      have hS2 := show w3.cell? ⟨wr.heap.size, 0, none⟩ = some (.int .i64 s.st) ∧ w3.cell? ⟨wr.heap.size, 1, none⟩ = some (.slice A5 s.set.length c5) ∧ w3.cell? ⟨wr.heap.size, 2, none⟩ = some (.slice A6 s.prep.length c6) ∧ w3.cell? ⟨wr.heap.size, 3, none⟩ = some (.slice A7 s.sav.length c7) ∧ w3.cell? ⟨wr.heap.size, 4, none⟩ = some (.slice A8 s.wr.length c8) ∧ w3.cell? ⟨w1.heap.size, 1, none⟩ = some (.slice As k cs) from ⟨(kb.cell (p := ⟨wr.heap.size, 0, none⟩) hz0).trans e0, (kb.cell (p := ⟨wr.heap.size, 1, none⟩) hz0).trans e1, (kb.cell (p := ⟨wr.heap.size, 2, none⟩) hz0).trans e2, (kb.cell (p := ⟨wr.heap.size, 3, none⟩) hz0).trans e3, (kb.cell (p := ⟨wr.heap.size, 4, none⟩) hz0).trans e4, (kb.cell (p := ⟨w1.heap.size, 1, none⟩) hX0).trans o1⟩
      refine hK.out _ _ hS2 ?_
      clear hK K hS
      have hS := hS2
      clear hS2
      (try simp only [List.getElem_toArray, List.getElem_cons_zero, List.getElem_cons_succ, Act.put, List.setIfInBounds_toArray, List.set_cons_zero, List.set_cons_succ])
      refine wpAnyZ_take (i := 16) (v := ?v16) rfl (by kernel_rfl) (by kernel_rfl) (by kernel_rfl) (by kernel_rfl) (fun _ _ _ h => h) (Or.inl ⟨by rfl, ?y16⟩) hS ?r16
      case y16 => (intro w hSw; (try dsimp only at hSw); (try simp only [List.getElem_toArray, List.getElem_cons_zero, List.getElem_cons_succ]); go_simp; try with_reducible rfl)
      (try simp only [List.getElem_toArray, List.getElem_cons_zero, List.getElem_cons_succ, Act.put, List.setIfInBounds_toArray, List.set_cons_zero, List.set_cons_succ])
      have HOW3 := Lib.hid (own_bel HOW0.out kb)
      have hX3 : w1.heap.size < w3.heap.size := Nat.lt_of_lt_of_le hX0 kb.size
      have hY3 : wr.heap.size < w3.heap.size := Nat.lt_of_lt_of_le hz0 kb.size
      have f3 : w3.frozen? ⟨w1.heap.size, 1, none⟩ = false := (HO0.out.below kb hX0).frozen 1
      refine wpAnyZ_one (i := 17) rfl rfl (by kernel_rfl) (fun K hK => ?_)
      (try simp only [List.getElem_toArray, List.getElem_cons_zero, List.getElem_cons_succ])
      go_simp
      have hS2 := (show (w3.alloc (.cells #[.int .i64 s.st, .slice D0 s.set.length k0, .slice D1 s.prep.length k1, .slice D2 s.sav.length k2, .slice D3 s.wr.length k3] 46)).cell? ⟨wr.heap.size, 0, none⟩ = some (.int .i64 s.st) ∧ (w3.alloc (.cells #[.int .i64 s.st, .slice D0 s.set.length k0, .slice D1 s.prep.length k1, .slice D2 s.sav.length k2, .slice D3 s.wr.length k3] 46)).cell? ⟨wr.heap.size, 1, none⟩ = some (.slice A5 s.set.length c5) ∧ (w3.alloc (.cells #[.int .i64 s.st, .slice D0 s.set.length k0, .slice D1 s.prep.length k1, .slice D2 s.sav.length k2, .slice D3 s.wr.length k3] 46)).cell? ⟨wr.heap.size, 2, none⟩ = some (.slice A6 s.prep.length c6) ∧ (w3.alloc (.cells #[.int .i64 s.st, .slice D0 s.set.length k0, .slice D1 s.prep.length k1, .slice D2 s.sav.length k2, .slice D3 s.wr.length k3] 46)).cell? ⟨wr.heap.size, 3, none⟩ = some (.slice A7 s.sav.length c7) ∧ (w3.alloc (.cells #[.int .i64 s.st, .slice D0 s.set.length k0, .slice D1 s.prep.length k1, .slice D2 s.sav.length k2, .slice D3 s.wr.length k3] 46)).cell? ⟨wr.heap.size, 4, none⟩ = some (.slice A8 s.wr.length c8) ∧ (w3.alloc (.cells #[.int .i64 s.st, .slice D0 s.set.length k0, .slice D1 s.prep.length k1, .slice D2 s.sav.length k2, .slice D3 s.wr.length k3] 46)).cell? ⟨w1.heap.size, 1, none⟩ = some (.slice As k cs) from ⟨cell_al hY3 hS.1, cell_al hY3 hS.2.1, cell_al hY3 hS.2.2.1, cell_al hY3 hS.2.2.2.1, cell_al hY3 hS.2.2.2.2.1, cell_al hX3 hS.2.2.2.2.2⟩)
      refine hK.out _ _ hS2 ?_
      clear hK K hS
      have hS := hS2
      clear hS2
      (try simp only [List.getElem_toArray, List.getElem_cons_zero, List.getElem_cons_succ, Act.put, List.setIfInBounds_toArray, List.set_cons_zero, List.set_cons_succ])
      refine wpAnyZ_one (i := 18) rfl rfl (by kernel_rfl) (fun K hK => ?_)
      (try simp only [List.getElem_toArray, List.getElem_cons_zero, List.getElem_cons_succ])
      refine wp_append_lies _ _ _ _ (by rfl) (w1.heap.size + 1) 46 i0 _ 5 104 Tryd.underlying23 HI.out.1 HI.out.2.1 HI.out.2.2.1 HI.out.2.2.2 rfl (by omega) (.slice As k cs) k (sflat G W.ss k) (by rfl) (HOW3.out.alloc _) ⟨w3.heap.size, 0, none⟩ 1 1 [.int .i64 s.st, .slice D0 s.set.length k0, .slice D1 s.prep.length k1, .slice D2 s.sav.length k2, .slice D3 s.wr.length k3] (by rfl) (by rfl) (World.news_of_block (cs := #[.int .i64 s.st, .slice D0 s.set.length k0, .slice D1 s.prep.length k1, .slice D2 s.sav.length k2, .slice D3 s.wr.length k3]) (t := 46) (fr := (0, 0)) (heap_alloc_new w3 _)) (by simp [Value.oneCell']) (by omega) (by unfold maxLen; omega) (by omega) (by simp; omega) (w3.heap.size + 1) (by simp) ?_
      intro gg cap w5 hown5 hgrow hat hlt5
      have hXa : w1.heap.size < (w3.alloc (.cells #[.int .i64 s.st, .slice D0 s.set.length k0, .slice D1 s.prep.length k1, .slice D2 s.sav.length k2, .slice D3 s.wr.length k3] 46)).heap.size := by simp; omega
      have hYa : wr.heap.size < (w3.alloc (.cells #[.int .i64 s.st, .slice D0 s.set.length k0, .slice D1 s.prep.length k1, .slice D2 s.sav.length k2, .slice D3 s.wr.length k3] 46)).heap.size := by simp; omega
      have f5 : w5.frozen? ⟨w1.heap.size, 1, none⟩ = false := (hgrow.frozen_far ⟨w1.heap.size, 1, none⟩ hXa hneX).trans (((HO0.out.below kb hX0).alloc _).frozen 1)
      have hS2 := (show w5.cell? ⟨wr.heap.size, 0, none⟩ = some (.int .i64 s.st) ∧ w5.cell? ⟨wr.heap.size, 1, none⟩ = some (.slice A5 s.set.length c5) ∧ w5.cell? ⟨wr.heap.size, 2, none⟩ = some (.slice A6 s.prep.length c6) ∧ w5.cell? ⟨wr.heap.size, 3, none⟩ = some (.slice A7 s.sav.length c7) ∧ w5.cell? ⟨wr.heap.size, 4, none⟩ = some (.slice A8 s.wr.length c8) ∧ w5.cell? ⟨w1.heap.size, 1, none⟩ = some (.slice As k cs) from ⟨(hgrow.cell_far ⟨wr.heap.size, 0, none⟩ hYa hne5).trans hS.1, (hgrow.cell_far ⟨wr.heap.size, 1, none⟩ hYa hne5).trans hS.2.1, (hgrow.cell_far ⟨wr.heap.size, 2, none⟩ hYa hne5).trans hS.2.2.1, (hgrow.cell_far ⟨wr.heap.size, 3, none⟩ hYa hne5).trans hS.2.2.2.1, (hgrow.cell_far ⟨wr.heap.size, 4, none⟩ hYa hne5).trans hS.2.2.2.2.1, (hgrow.cell_far ⟨w1.heap.size, 1, none⟩ hXa hneX).trans hS.2.2.2.2.2⟩)
      refine hK.out _ _ hS2 ?_
      clear hK K hS
      have hS := hS2
      clear hS2
      (try simp only [List.getElem_toArray, List.getElem_cons_zero, List.getElem_cons_succ, Act.put, List.setIfInBounds_toArray, List.set_cons_zero, List.set_cons_succ])
      refine wpAnyZ_take (i := 19) (v := ?v19) rfl (by kernel_rfl) (by kernel_rfl) (by kernel_rfl) (by kernel_rfl) (fun _ _ _ h => h) (Or.inl ⟨by rfl, ?y19⟩) hS ?r19
      case y19 => (intro w hSw; (try dsimp only at hSw); (try simp only [List.getElem_toArray, List.getElem_cons_zero, List.getElem_cons_succ]); go_simp; try with_reducible rfl)
      (try simp only [List.getElem_toArray, List.getElem_cons_zero, List.getElem_cons_succ, Act.put, List.setIfInBounds_toArray, List.set_cons_zero, List.set_cons_succ])
      have o5 := hS.2.2.2.2.2
      refine wpAnyZ_last rfl rfl (by kernel_rfl) (by kernel_rfl) (fun K hK => ?_)
      (try simp only [List.getElem_toArray, List.getElem_cons_zero, List.getElem_cons_succ])
      go_simp
      refine hK.out _ _ ?_
      clear hK K
      (try simp only [List.getElem_toArray, List.getElem_cons_zero, List.getElem_cons_succ, Act.put, List.setIfInBounds_toArray, List.set_cons_zero, List.set_cons_succ])
      clear hS o5
      go_wp2
      go_roundw
      case rel =>
        refine ⟨k + 1, by omega, by go_num, .slice (some ⟨gg, 0, none⟩) (k + 1) cap, GG G k (.slice D0 s.set.length k0) (.slice D1 s.prep.length k1) (.slice D2 s.sav.length k2) (.slice D3 s.wr.length k3), ?_⟩
        have hk' := HK.out
        subst hk'
        exact HC.out.step hlt ((A0.out.trans (kb.mono (by omega))).alloc hq0 _) (Q0.out.1.step ((Below.refl _ _).alloc (Nat.le_refl _) _)) (Q1.out.1.step ((Below.refl _ _).alloc (Nat.le_refl _) _)) (Q2.out.1.step ((Below.refl _ _).alloc (Nat.le_refl _) _)) (Q3.out.1.step ((Below.refl _ _).alloc (Nat.le_refl _) _)) Q0.out.2 Q1.out.2 Q2.out.2 Q3.out.2 hown5 hgrow (by rw [World.size_alloc]; exact hat)
      case measure => simp [intOf]; omega
    · obtain rfl : k = W.ss.length := by omega
      have x0 := hR.box.cell (j := 0) (by simp)
      have x1 := hR.box.cell (j := 1) (by simp)
      have o0 := hR.out.cell (j := 0) (by simp)
      have o1 := hR.out.cell (j := 1) (by simp)
      have q0 := hR.res.cell (j := 0) (by simp)
      have q1 := hR.res.cell (j := 1) (by simp)
      have f0 := hR.res.frozen 0
      have f1 := hR.res.frozen 1
      simp only [List.getElem_cons_zero, List.getElem_cons_succ] at x0 x1 o0 o1 q0 q1
      clear hR
      go_wp2
      refine bodyPost_ret (v := .agg #[.slice A1 W.rows.length c1, .slice As W.ss.length cs]) (by simp [results, Tryd.results9, go_sem, q0, q1]) rfl ?_
      exact ⟨_, _, rfl, HC.out.fin hby rfl⟩
end Go.Proofs.YtpbaobmegomfpabDoor

/-
  A region that draws its order, with a chain of calls and two variables that it makes (at whatever time): what is known behind the chain holds whatever the order.
-/
namespace Go.Proofs.YtpbaobmegomfpabDoor
open Go Go.RowKit
set_option linter.unusedVariables false

def pt (b : Nat) : Value := .pointer (some ⟨b, 0, none⟩)
/-- a frame with the two variables, as far as they are made -/
def fr (dp dq : Nat) (a : Act) : Option Nat → Option Nat → Act
  | none, none => a
  | some b, none => a.put (some dp) (pt b)
  | none, some c => a.put (some dq) (pt c)
  | some b, some c => (a.put (some dp) (pt b)).put (some dq) (pt c)
def zs (lo : Nat) (t : TypeId) (zc : Array Value) (x : Option Nat) (w : World) : Prop := ∀ b, x = some b → lo ≤ b ∧ w.heap[b]? = some (.cells zc t (0, 0))
theorem zs_none (lo : Nat) (t : TypeId) (zc : Array Value) (w : World) : zs lo t zc none w := fun _ h => by cases h
theorem zs_alloc {lo : Nat} {t : TypeId} {zc : Array Value} {x : Option Nat} {w : World} (h : zs lo t zc x w) (o : Obj) : zs lo t zc x (w.alloc o) := fun b hb => by
  have := h b hb
  rw [Below.heap_alloc _ _ _ (Array.getElem?_eq_some_iff.1 this.2).1]; exact this
theorem zs_new {lo : Nat} (t : TypeId) (zc : Array Value) (w : World) (h : lo ≤ w.heap.size) : zs lo t zc (some w.heap.size) (w.alloc (.cells zc t)) := fun b hb => by
  injection hb with hb; subst hb; exact ⟨h, heap_alloc_new w _⟩
theorem zs_row {lo : Nat} {t : TypeId} {zc : Array Value} {b : Nat} {w : World} (h : zs lo t zc (some b) w) : RowTo w b t zc.size zc.toList := ⟨zc, (h b rfl).2, rfl, by rw [List.take_of_length_le (by simp)]⟩
theorem zs_below {lo : Nat} {t : TypeId} {zc : Array Value} {x : Option Nat} {w w' : World} (h : zs lo t zc x w) (hb : Below w.heap.size w w') : zs lo t zc x w' := fun b e => by
  have := h b e
  exact ⟨this.1, (hb.block b (Array.getElem?_eq_some_iff.1 this.2).1).trans this.2⟩
/-- where only a block of another type has turned -/
theorem zs_but {lo : Nat} {t u S n : Nat} {zc : Array Value} {x : Option Nat} {w w' : World} {xs : List Value} (h : zs lo t zc x w) (hS : RowTo w S u n xs) (hu : u ≠ t) (hk : ∀ b, b < w.heap.size → b ≠ S → w'.heap[b]? = w.heap[b]?) : zs lo t zc x w' := fun b e => by
  have := h b e
  refine ⟨this.1, (hk b (Array.getElem?_eq_some_iff.1 this.2).1 fun hbS => ?_).trans this.2⟩
  obtain ⟨cur, hh, _⟩ := hS
  rw [hbS, hh] at this
  have e := this.2
  injection e with e
  injection e with _ e _
  exact hu e
theorem pc {a : Act} {d e : Nat} (h : d ≠ e) (v u : Value) : (a.put (some d) v).put (some e) u = (a.put (some e) u).put (some d) v := Act.put_comm a v u (fun x hx hy => by injection hx with hx; injection hy with hy; exact h (hx.trans hy.symm))
theorem fr_put {dp dq d : Nat} (h1 : d ≠ dp) (h2 : d ≠ dq) (a : Act) (x y : Option Nat) (v : Value) : (fr dp dq a x y).put (some d) v = fr dp dq (a.put (some d) v) x y := by
  cases x <;> cases y <;> simp only [fr]
  · rw [pc (Ne.symm h2)]
  · rw [pc (Ne.symm h1)]
  · rw [pc (Ne.symm h2), pc (Ne.symm h1)]
theorem eval_put_ne {a : Act} {d t : Nat} (h : d ≠ t) (v : Value) : (a.put (some d) v).eval (.tmp t) = a.eval (.tmp t) := Act.eval_put fun x hx e => by injection hx with hx; injection e with e; exact h (hx.trans e.symm)
theorem eval_put_self {a : Act} {d : Nat} (h : d < a.tmps.size) (v : Value) : (a.put (some d) v).eval (.tmp d) = v := by
  show (a.tmps.setIfInBounds d v).getD d undef = v
  simp [h]
theorem size_putd {a : Act} {d : Nat} (v : Value) : (a.put (some d) v).tmps.size = a.tmps.size := by show (a.tmps.setIfInBounds d v).size = _; simp
theorem fr_eval {dp dq t : Nat} (h1 : dp ≠ t) (h2 : dq ≠ t) (a : Act) (x y : Option Nat) : (fr dp dq a x y).eval (.tmp t) = a.eval (.tmp t) := by
  cases x <;> cases y <;> simp only [fr] <;> simp only [eval_put_ne h1, eval_put_ne h2]

section
variable {P : Program} {ops : Array Oper} {Q : Exit → Act → World → Prop} {md : Region.Mode} {S : World → Prop} {z : Nat}
theorem wpOp_wp {i : Nat} {o : Oper} {K : Act → World → Prop} {a : Act} {w : World} (ho : ops[i]? = some o) (hg : o.guard = none) (h : o.wp P a w K Q) : wpOp P ops Q i K a w := by
  unfold wpOp
  simp only [ho]
  rw [if_pos (by simp [Region.wanted, hg])]
  exact .inl h
/-- a call of a Go function -/
theorem wp_call {o : Oper} {a : Act} {w : World} {K : Act → World → Prop} {g : FuncId} {args : Array Value} (hr : (execOp a.eval o).run P w = .ok (.enter g args) w)
    (h : Calls P g args w fun e w' => ∃ v, e = .returned v ∧ K (a.put o.dst v) w') : o.wp P a w K Q := by
  unfold Oper.wp
  rw [hr]
  refine Calls.mono h fun e w' he => ?_
  obtain ⟨v, rfl, hk⟩ := he
  exact hk
theorem wp_val {o : Oper} {a : Act} {w w' : World} {K : Act → World → Prop} {v : Value} (hr : (execOp a.eval o).run P w = .ok (.value v) w') (h : K (a.put o.dst v) w') : o.wp P a w K Q := by
  unfold Oper.wp; rw [hr]; exact h

/-- what is asked of the region: its calls (number c is operation cop c, which lays its result in slot dst c), its two variables (operations p, q; slots dp, dq) -/
structure GridS (P : Program) (md : Region.Mode) (ops : Array Oper) (C : Nat) (cop dst : Nat → Nat) (p q dp dq : Nat) (tp tq : TypeId) (zp zq : Array Value) (Lst : Nat → Bool → Bool → Array Bool) (Lst' : Bool → Bool → Array Bool) : Prop where
  op : ∃ o, ops[p]? = some o ∧ o.guard = none ∧ o.dst = some dp ∧ ∀ (ev : Operand → Value) w, (execOp ev o).run P w = .ok (.value (pt w.heap.size)) (w.alloc (.cells zp tp))
  oq : ∃ o, ops[q]? = some o ∧ o.guard = none ∧ o.dst = some dq ∧ ∀ (ev : Operand → Value) w, (execOp ev o).run P w = .ok (.value (pt w.heap.size)) (w.alloc (.cells zq tq))
  ne : dp ≠ dq
  dn : ∀ c, c < C → dst c ≠ dp ∧ dst c ≠ dq
  ready : ∀ c x y, c < C → Region.ready md ops (Lst c x y) = cop c :: ((if x then [] else [p]) ++ (if y then [] else [q]))
  ready' : ∀ x y, (x && y) = false → Region.ready md ops (Lst' x y) = (if x then [] else [p]) ++ (if y then [] else [q])
  setc : ∀ c x y, c < C → (Lst c x y).setIfInBounds (cop c) true = Lst (c + 1) x y
  setp : ∀ c y, c < C → (Lst c false y).setIfInBounds p true = Lst c true y
  setq : ∀ c x, c < C → (Lst c x false).setIfInBounds q true = Lst c x true
  setp' : ∀ y, (Lst' false y).setIfInBounds p true = Lst' true y
  setq' : ∀ x, (Lst' x false).setIfInBounds q true = Lst' x true
variable {C : Nat} {cop dst : Nat → Nat} {p q dp dq : Nat} {tp tq : TypeId} {zp zq : Array Value} {Lst : Nat → Bool → Bool → Array Bool} {Lst' : Bool → Bool → Array Bool}
theorem grid (G : GridS P md ops C cop dst p q dp dq tp tq zp zq Lst Lst') (J : Nat → Act → World → Prop) (J' : Act → World → Prop) (n0 k0 lo : Nat)
    (hJ : ∀ c a w o, J c a w → J c a (w.alloc o)) (hJ' : ∀ a w o, J' a w → J' a (w.alloc o)) (hS : ∀ c a w, J c a w → S w) (hS' : ∀ a w, J' a w → S w) (hl : ∀ c a w, J c a w → lo ≤ w.heap.size) (hl' : ∀ a w, J' a w → lo ≤ w.heap.size)
    (hcall : ∀ c a w x y, c < C → J c a w → zs lo tp zp x w → zs lo tq zq y w → wpOp P ops Q (cop c) (fun a' w' => ∃ v, a' = (fr dp dq a x y).put (some (dst c)) v ∧ J (c + 1) (a.put (some (dst c)) v) w' ∧ zs lo tp zp x w' ∧ zs lo tq zq y w') (fr dp dq a x y) w)
    (htake : ∀ a w x y n, J C a w → zs lo tp zp x w → zs lo tq zq y w → (∀ a', J' a' w → wpAnyZ P md ops Q S z n (Lst' x.isSome y.isSome) (fr dp dq a' x y) w) → wpAnyZ P md ops Q S z (n + k0) (Lst C x.isSome y.isSome) (fr dp dq a x y) w)
    (hfin : ∀ a w b c, J' a w → zs lo tp zp (some b) w → zs lo tq zq (some c) w → wpAnyZ P md ops Q S z n0 (Lst' true true) (fr dp dq a (some b) (some c)) w) :
    ∀ a w, J 0 a w → wpAnyZ P md ops Q S z (n0 + 2 + k0 + C) (Lst 0 false false) a w := by
  obtain ⟨o1, p1, p2, p3, p4⟩ := G.op
  obtain ⟨o2, q1, q2, q3, q4⟩ := G.oq
  have ap : ∀ (a : Act) (y : Option Nat) (w : World) (K : Act → World → Prop), K (fr dp dq a (some w.heap.size) y) (w.alloc (.cells zp tp)) → wpOp P ops Q p K (fr dp dq a none y) w := fun a y w K h => by
    refine wpOp_wp p1 p2 (wp_val (p4 _ w) ?_)
    rw [p3]
    cases y with
    | none => exact h
    | some c =>
      have e : (fr dp dq a none (some c)).put (some dp) (pt w.heap.size) = fr dp dq a (some w.heap.size) (some c) := by simp only [fr]; rw [pc (Ne.symm G.ne)]
      rw [e]; exact h
  have aq : ∀ (a : Act) (x : Option Nat) (w : World) (K : Act → World → Prop), K (fr dp dq a x (some w.heap.size)) (w.alloc (.cells zq tq)) → wpOp P ops Q q K (fr dp dq a x none) w := fun a x w K h => by
    refine wpOp_wp q1 q2 (wp_val (q4 _ w) ?_)
    rw [q3]
    cases x <;> exact h
  -- behind the chain
  have last : ∀ (x y : Option Nat) (a : Act) (w : World), J' a w → zs lo tp zp x w → zs lo tq zq y w → wpAnyZ P md ops Q S z (n0 + (!x.isSome).toNat + (!y.isSome).toNat) (Lst' x.isSome y.isSome) (fr dp dq a x y) w := by
    have tt : ∀ b c a w, J' a w → zs lo tp zp (some b) w → zs lo tq zq (some c) w → wpAnyZ P md ops Q S z n0 (Lst' true true) (fr dp dq a (some b) (some c)) w := fun b c a w => hfin a w b c
    have ft : ∀ c a w, J' a w → zs lo tq zq (some c) w → wpAnyZ P md ops Q S z (n0 + 1) (Lst' false true) (fr dp dq a none (some c)) w := fun c a w hj hy => by
      refine ⟨fun h0 => (by rw [G.ready' false true rfl] at h0; cases h0), fun i hi => ?_⟩
      rw [G.ready' false true rfl] at hi
      obtain rfl : i = p := by simpa using hi
      refine ap a _ w _ ⟨fun _ => hS' _ _ (hJ' _ _ _ hj), ?_⟩
      rw [G.setp']
      exact tt _ _ _ _ (hJ' _ _ _ hj) (zs_new _ _ _ (hl' _ _ hj)) (zs_alloc hy _)
    have tf : ∀ b a w, J' a w → zs lo tp zp (some b) w → wpAnyZ P md ops Q S z (n0 + 1) (Lst' true false) (fr dp dq a (some b) none) w := fun b a w hj hx => by
      refine ⟨fun h0 => (by rw [G.ready' true false rfl] at h0; cases h0), fun i hi => ?_⟩
      rw [G.ready' true false rfl] at hi
      obtain rfl : i = q := by simpa using hi
      refine aq a _ w _ ⟨fun _ => hS' _ _ (hJ' _ _ _ hj), ?_⟩
      rw [G.setq']
      exact tt _ _ _ _ (hJ' _ _ _ hj) (zs_alloc hx _) (zs_new _ _ _ (hl' _ _ hj))
    intro x y a w hj hx hy
    cases x with
    | some b =>
      cases y with
      | some c => exact tt b c a w hj hx hy
      | none => exact tf b a w hj hx
    | none =>
      cases y with
      | some c => exact ft c a w hj hy
      | none =>
        refine ⟨fun h0 => (by rw [show Lst' (none : Option Nat).isSome (none : Option Nat).isSome = Lst' false false from rfl, G.ready' false false rfl] at h0; cases h0), fun i hi => ?_⟩
        rw [show Lst' (none : Option Nat).isSome (none : Option Nat).isSome = Lst' false false from rfl, G.ready' false false rfl] at hi
        have hi2 : i = p ∨ i = q := by simpa using hi
        rcases hi2 with rfl | rfl
        · refine ap a _ w _ ⟨fun _ => hS' _ _ (hJ' _ _ _ hj), ?_⟩
          show wpAnyZ P md ops Q S z (n0 + 1) ((Lst' false false).setIfInBounds i true) _ _
          rw [G.setp']
          exact tf _ _ _ (hJ' _ _ _ hj) (zs_new _ _ _ (hl' _ _ hj))
        · refine aq a _ w _ ⟨fun _ => hS' _ _ (hJ' _ _ _ hj), ?_⟩
          show wpAnyZ P md ops Q S z (n0 + 1) ((Lst' false false).setIfInBounds i true) _ _
          rw [G.setq']
          exact ft _ _ _ (hJ' _ _ _ hj) (zs_new _ _ _ (hl' _ _ hj))
  -- along the chain
  have main : ∀ (m c : Nat) (x y : Option Nat) (a : Act) (w : World), c ≤ C → m = (C - c) + (!x.isSome).toNat + (!y.isSome).toNat → J c a w → zs lo tp zp x w → zs lo tq zq y w → wpAnyZ P md ops Q S z (n0 + k0 + m) (Lst c x.isSome y.isSome) (fr dp dq a x y) w := by
    intro m
    induction m with
    | zero =>
      intro c x y a w hc hm hj hx hy
      have hcC : c = C := by omega
      subst hcC
      have hxs : (!x.isSome).toNat = 0 := by omega
      have hys : (!y.isSome).toNat = 0 := by omega
      have := htake a w x y n0 hj hx hy (fun a' hj' => by have := last x y a' w hj' hx hy; rw [hxs, hys] at this; exact this)
      exact this
    | succ m ih =>
      intro c x y a w hc hm hj hx hy
      by_cases hcC : c = C
      · subst hcC
        have := htake a w x y (n0 + (!x.isSome).toNat + (!y.isSome).toNat) hj hx hy (fun a' hj' => last x y a' w hj' hx hy)
        rw [show n0 + k0 + (m + 1) = n0 + (!x.isSome).toNat + (!y.isSome).toNat + k0 by omega]
        exact this
      · have hlt : c < C := by omega
        rw [show n0 + k0 + (m + 1) = (n0 + k0 + m) + 1 by omega]
        refine ⟨fun h0 => (by rw [G.ready c _ _ hlt] at h0; cases h0), fun i hi => ?_⟩
        rw [G.ready c _ _ hlt] at hi
        rcases List.mem_cons.1 hi with rfl | hi
        · refine wpOp_mono (fun a' w' h => ?_) (hcall c a w x y hlt hj hx hy)
          obtain ⟨v, rfl, h1, h2, h3⟩ := h
          refine ⟨fun _ => hS _ _ _ h1, ?_⟩
          rw [G.setc c _ _ hlt, fr_put (G.dn c hlt).1 (G.dn c hlt).2]
          exact ih (c + 1) x y _ w' (by omega) (by omega) h1 h2 h3
        · rcases List.mem_append.1 hi with hi | hi
          · cases x with
            | some b => simp at hi
            | none =>
              obtain rfl : i = p := by simpa using hi
              refine ap a _ w _ ⟨fun _ => hS _ _ _ (hJ _ _ _ _ hj), ?_⟩
              rw [show Lst c (none : Option Nat).isSome y.isSome = Lst c false y.isSome from rfl, G.setp c _ hlt]
              exact ih c (some w.heap.size) y a _ hc (by simp at hm ⊢; omega) (hJ _ _ _ _ hj) (zs_new _ _ _ (hl _ _ _ hj)) (zs_alloc hy _)
          · cases y with
            | some b => simp at hi
            | none =>
              obtain rfl : i = q := by simpa using hi
              refine aq a _ w _ ⟨fun _ => hS _ _ _ (hJ _ _ _ _ hj), ?_⟩
              rw [show Lst c x.isSome (none : Option Nat).isSome = Lst c x.isSome false from rfl, G.setq c _ hlt]
              exact ih c x (some w.heap.size) a _ hc (by simp at hm ⊢; omega) (hJ _ _ _ _ hj) (zs_alloc hx _) (zs_new _ _ _ (hl _ _ _ hj))
  intro a w hj
  have := main (C + 1 + 1) 0 none none a w (Nat.zero_le _) (by simp) hj (zs_none _ _ _ _) (zs_none _ _ _ _)
  rw [show n0 + 2 + k0 + C = n0 + k0 + (C + 1 + 1) by omega]
  exact this
/-- the same, where what holds speaks of the frame at the beginning -/
theorem grid0 {A0 : Act} {w0 : World} (G : GridS P md ops C cop dst p q dp dq tp tq zp zq Lst Lst') (J : Act → Nat → Act → World → Prop) (J' : Act → Act → World → Prop) (n0 k0 lo : Nat)
    (hJ : ∀ c a w o, J A0 c a w → J A0 c a (w.alloc o)) (hJ' : ∀ a w o, J' A0 a w → J' A0 a (w.alloc o)) (hS : ∀ c a w, J A0 c a w → S w) (hS' : ∀ a w, J' A0 a w → S w) (hl : ∀ c a w, J A0 c a w → lo ≤ w.heap.size) (hl' : ∀ a w, J' A0 a w → lo ≤ w.heap.size)
    (hcall : ∀ c a w x y, c < C → J A0 c a w → zs lo tp zp x w → zs lo tq zq y w → wpOp P ops Q (cop c) (fun a' w' => ∃ v, a' = (fr dp dq a x y).put (some (dst c)) v ∧ J A0 (c + 1) (a.put (some (dst c)) v) w' ∧ zs lo tp zp x w' ∧ zs lo tq zq y w') (fr dp dq a x y) w)
    (htake : ∀ a w x y n, J A0 C a w → zs lo tp zp x w → zs lo tq zq y w → (∀ a', J' A0 a' w → wpAnyZ P md ops Q S z n (Lst' x.isSome y.isSome) (fr dp dq a' x y) w) → wpAnyZ P md ops Q S z (n + k0) (Lst C x.isSome y.isSome) (fr dp dq a x y) w)
    (hfin : ∀ a w b c, J' A0 a w → zs lo tp zp (some b) w → zs lo tq zq (some c) w → wpAnyZ P md ops Q S z n0 (Lst' true true) (fr dp dq a (some b) (some c)) w)
    (h0 : J A0 0 A0 w0) : wpAnyZ P md ops Q S z (n0 + 2 + k0 + C) (Lst 0 false false) A0 w0 := grid G (J A0) (J' A0) n0 k0 lo hJ hJ' hS hS' hl hl' hcall htake hfin A0 w0 h0
end
end Go.Proofs.YtpbaobmegomfpabDoor

/-
  The reference's DidOf.
-/
namespace Go.Proofs.YtpbaobmegomfpabDoor
open Go.RowKit
set_option linter.unusedVariables false
set_option linter.unusedSimpArgs false
set_option maxRecDepth 100000

theorem CopyOut.ref {w w' : World} {W : Wd} {r' s' : Value} (h : CopyOut w w' W r' s') (hn : 0 < W.ss.length) : ∃ S cap, s' = slc S W.ss.length cap ∧ w.heap.size < S ∧ RefW w' w.heap.size S cap r' W := by
  obtain ⟨S, cap, G, hs, hS, hr, hc, hp, hl⟩ := h.own hn
  refine ⟨S, cap, hs, hS, h.wld.rows, hp, hr.nil, hc, h.wld.sess.bytes, fun i hi => ?_, by omega⟩
  exact ⟨_, _, _, _, sflat_ses hr (fun i j hi hj => (hl i j hi hj).1) hi, (hl i 0 hi (by omega)).2, (hl i 1 hi (by omega)).2, (hl i 2 hi (by omega)).2, (hl i 3 hi (by omega)).2⟩
theorem didOf_fin {w w8 w' : World} {base S cap n : Nat} {A8 : Option Addr} {d8 : Nat} {R : Wd × Ans} (hn : R.1.ss.length = n) (hSw : w.heap.size + 1 + 1 + 1 < S)
    (hr : RefW w8 base S cap (.slice A8 R.1.rows.length d8) R.1) (hbel : Below w.heap.size w w8)
    (hR : RowTo w8 (w.heap.size + 1 + 1) 25 2 [.slice none 0 0, .slice none 0 0]) (hA : RowTo w8 (w.heap.size + 1 + 1 + 1) 30 3 [.int .i64 0, .string ⟨#[]⟩, .int .i64 0]) (x1 x2 x3 x4 x5 : Value)
    (hh : w'.heap = (((((w8.setCell ⟨w.heap.size + 1 + 1, 0, none⟩ x1).setCell ⟨w.heap.size + 1 + 1, 1, none⟩ x2).setCell ⟨w.heap.size + 1 + 1 + 1, 0, none⟩ x3).setCell ⟨w.heap.size + 1 + 1 + 1, 1, none⟩ x4).setCell ⟨w.heap.size + 1 + 1 + 1, 2, none⟩ x5).heap) (ht : w'.os = w8.os ∧ w'.tape = w8.tape ∧ w'.output = w8.output) :
    Wld w' w'.heap.size (.slice A8 R.1.rows.length d8) (.slice (some ⟨S, 0, none⟩) n cap) R.1 ∧ Below w.heap.size w w' := by
  subst hn
  have hk1 : ∀ b, b ≠ w.heap.size + 1 + 1 → ((w8.setCell ⟨w.heap.size + 1 + 1, 0, none⟩ x1).setCell ⟨w.heap.size + 1 + 1, 1, none⟩ x2).heap[b]? = w8.heap[b]? := fun b hb => by rw [Below.heap_setCell _ _ _ _ hb, Below.heap_setCell _ _ _ _ hb]
  have e1 := hr.offN (R := w.heap.size + 1 + 1) (by omega) (noTwo_world hR) (w' := (w8.setCell ⟨w.heap.size + 1 + 1, 0, none⟩ x1).setCell ⟨w.heap.size + 1 + 1, 1, none⟩ x2) (by simp [World.setCell]) hk1
  have A1 := (hA.other (p := ⟨w.heap.size + 1 + 1, 0, none⟩) (by show w.heap.size + 1 + 1 ≠ _; omega) x1).other (p := ⟨w.heap.size + 1 + 1, 1, none⟩) (by show w.heap.size + 1 + 1 ≠ _; omega) x2
  have hk2 : ∀ b, b ≠ w.heap.size + 1 + 1 + 1 → w'.heap[b]? = ((w8.setCell ⟨w.heap.size + 1 + 1, 0, none⟩ x1).setCell ⟨w.heap.size + 1 + 1, 1, none⟩ x2).heap[b]? := fun b hb => by rw [hh, Below.heap_setCell _ _ _ _ hb, Below.heap_setCell _ _ _ _ hb, Below.heap_setCell _ _ _ _ hb]
  have hz : w'.heap.size = w8.heap.size := by rw [hh]; simp [World.setCell]
  have e2 := e1.offN (R := w.heap.size + 1 + 1 + 1) (by omega) (noTwo_answer A1) (w' := w') (by rw [hz]; simp [World.setCell]) hk2
  exact ⟨e2.wld, ⟨ht.1.trans hbel.os, ht.2.1.trans hbel.tape, ht.2.2.trans hbel.output, by rw [hz]; exact hbel.size, fun b hb' => (hk2 b (by omega)).trans ((hk1 b (by omega)).trans (hbel.block b hb'))⟩⟩

theorem inB_doE {W : Wd} {i : Int} (h : 0 ≤ i ∧ i < (W.ss.length : Int)) : inB 0 i ((W.ss.length : Int) - 1) = true := inB_yes (by omega)
theorem inB_doN {W : Wd} {i : Int} (h : i < 0 ∨ (W.ss.length : Int) ≤ i) : inB 0 i ((W.ss.length : Int) - 1) = false := inB_no (by omega)

set_option maxHeartbeats 2000000 in
theorem didOf_no (r s : Value) (W : Wd) (i k : Int) (key val : ByteArray) (w : World) (hW : Wld w w.heap.size r s W) (hkz : key.size ≤ maxLen) (hvz : val.size ≤ maxLen) (he : doE W i k key val ≠ 0) :
    Calls Tryd.prog 11 #[.agg #[r, s], .int .i64 i, .agg #[.int .i64 k, .string key, .string val]] w fun e w' => e = .returned (doBad (doE W i k key val)) ∧ Below w.heap.size w w' := by
  obtain ⟨A, c, rfl, hc⟩ := hW.sess.form
  obtain ⟨D, d, rfl, hd⟩ := hW.rows.form
  have hby := hW.sess.bytes
  have HW := Lib.hid hW
  have H0 := Lib.hid (doAt0 w (.slice D W.rows.length d) (.slice A W.ss.length c) k key val)
  clear hW
  cases hb : worldB W
  · have HD := Lib.hid (show doE W i k key val = 5 by unfold doE; rw [if_pos hb])
    have HB := Lib.hid hb
    clear hb he
    go_enter Tryd.func11, Tryd.ntmps11
    go_wp2_with fail
    refine (worldMay_any _ _ W _ (HW.out.step H0.out.bel)).mono ?_
    rw [HB.out]
    rintro e w1 ⟨rfl, hb1⟩
    have h1 := H0.out.below hb1
    have r0 := h1.R.cell (j := 0) (by simp)
    have r1 := h1.R.cell (j := 1) (by simp)
    have a0 := h1.A.cell (j := 0) (by simp)
    have a1 := h1.A.cell (j := 1) (by simp)
    have a2 := h1.A.cell (j := 2) (by simp)
    have f0 := h1.R.frozen 0
    have f1 := h1.R.frozen 1
    have g0 := h1.A.frozen 0
    have g1 := h1.A.frozen 1
    have g2 := h1.A.frozen 2
    simp only [List.getElem_cons_zero, List.getElem_cons_succ] at r0 r1 a0 a1 a2
    have B1 := Lib.hid h1.bel
    clear hb1 h1
    go_wp2
    refine bodyPost_ret (v := doBad 5) (by simp [results, Tryd.results11, go_sem, r0, r1, a0, a1, a2, doBad]) rfl ⟨by rw [HD.out], ?_⟩
    exact ((((B1.out.setCell (by show _ ≤ w.heap.size + 1 + 1; omega) _).setCell (by show _ ≤ w.heap.size + 1 + 1; omega) _).setCell (by show _ ≤ w.heap.size + 1 + 1 + 1; omega) _).setCell (by show _ ≤ w.heap.size + 1 + 1 + 1; omega) _).setCell (by show _ ≤ w.heap.size + 1 + 1 + 1; omega) _
  have HB := Lib.hid hb
  by_cases hi : i < 0 ∨ (W.ss.length : Int) ≤ i
  · have HD := Lib.hid (show doE W i k key val = 6 by unfold doE; rw [if_neg (by rw [hb]; simp), if_pos hi])
    have HI := Lib.hid (inB_doN hi)
    clear hb he hi
    go_enter Tryd.func11, Tryd.ntmps11
    go_wp2_with fail
    refine (worldMay_any _ _ W _ (HW.out.step H0.out.bel)).mono ?_
    rw [HB.out]
    rintro e w1 ⟨rfl, hb1⟩
    have h1 := H0.out.below hb1
    have x1 := h1.X.cell (j := 1) (by simp)
    have r0 := h1.R.cell (j := 0) (by simp)
    have r1 := h1.R.cell (j := 1) (by simp)
    have a0 := h1.A.cell (j := 0) (by simp)
    have a1 := h1.A.cell (j := 1) (by simp)
    have a2 := h1.A.cell (j := 2) (by simp)
    have f0 := h1.R.frozen 0
    have f1 := h1.R.frozen 1
    have g0 := h1.A.frozen 0
    have g1 := h1.A.frozen 1
    have g2 := h1.A.frozen 2
    simp only [List.getElem_cons_zero, List.getElem_cons_succ] at x1 r0 r1 a0 a1 a2
    have B1 := Lib.hid h1.bel
    clear hb1 h1
    go_wp2_with fail
    refine (in_any _ _ _ _).mono ?_
    rw [HI.out]
    rintro e w' ⟨rfl, rfl⟩
    go_wp2
    refine bodyPost_ret (v := doBad 6) (by simp [results, Tryd.results11, go_sem, r0, r1, a0, a1, a2, doBad]) rfl ⟨by rw [HD.out], ?_⟩
    exact ((((B1.out.setCell (by show _ ≤ w.heap.size + 1 + 1; omega) _).setCell (by show _ ≤ w.heap.size + 1 + 1; omega) _).setCell (by show _ ≤ w.heap.size + 1 + 1 + 1; omega) _).setCell (by show _ ≤ w.heap.size + 1 + 1 + 1; omega) _).setCell (by show _ ≤ w.heap.size + 1 + 1 + 1; omega) _
  · have hd : doE W i k key val = checkE k key val := by unfold doE; rw [if_neg (by rw [hb]; simp), if_neg hi]
    rw [hd] at he
    have t : (checkE k key val != 0) = true := bne_iff_ne.2 he
    have HD := Lib.hid hd
    have HI := Lib.hid (inB_doE (W := W) (i := i) (by omega))
    clear hb he hi hd
    go_enter Tryd.func11, Tryd.ntmps11
    go_wp2_with fail
    refine (worldMay_any _ _ W _ (HW.out.step H0.out.bel)).mono ?_
    rw [HB.out]
    rintro e w1 ⟨rfl, hb1⟩
    have h1 := H0.out.below hb1
    have x1 := h1.X.cell (j := 1) (by simp)
    have y0 := h1.Y.cell (j := 0) (by simp)
    have y1 := h1.Y.cell (j := 1) (by simp)
    have y2 := h1.Y.cell (j := 2) (by simp)
    simp only [List.getElem_cons_zero, List.getElem_cons_succ] at x1 y0 y1 y2
    have H1 := Lib.hid h1
    clear hb1 h1
    go_wp2_with fail
    refine (in_any _ _ _ _).mono ?_
    rw [HI.out]
    rintro e w' ⟨rfl, rfl⟩
    go_wp2_with fail
    refine (stmtFault_any k key val hkz hvz _).mono ?_
    rintro e w2 ⟨rfl, hb2⟩
    have h2 := H1.out.below hb2
    clear x1 y0 y1 y2
    have r0 := h2.R.cell (j := 0) (by simp)
    have r1 := h2.R.cell (j := 1) (by simp)
    have a0 := h2.A.cell (j := 0) (by simp)
    have a1 := h2.A.cell (j := 1) (by simp)
    have a2 := h2.A.cell (j := 2) (by simp)
    have f0 := h2.R.frozen 0
    have f1 := h2.R.frozen 1
    have g0 := h2.A.frozen 0
    have g1 := h2.A.frozen 1
    have g2 := h2.A.frozen 2
    simp only [List.getElem_cons_zero, List.getElem_cons_succ] at r0 r1 a0 a1 a2
    have B1 := Lib.hid h2.bel
    clear hb2 h2
    go_wp2
    refine bodyPost_ret (v := doBad (checkE k key val)) (by simp [results, Tryd.results11, go_sem, r0, r1, a0, a1, a2, doBad]) rfl ⟨by rw [HD.out], ?_⟩
    exact ((((B1.out.setCell (by show _ ≤ w.heap.size + 1 + 1; omega) _).setCell (by show _ ≤ w.heap.size + 1 + 1; omega) _).setCell (by show _ ≤ w.heap.size + 1 + 1 + 1; omega) _).setCell (by show _ ≤ w.heap.size + 1 + 1 + 1; omega) _).setCell (by show _ ≤ w.heap.size + 1 + 1 + 1; omega) _

/-- DidOf's last statement: what holds behind each of its calls -/
def DJ (w2 : World) (W : Wd) (R : Wd × Ans) (st : Int) (A0 : Act) : Nat → Act → World → Prop
  | 0, a, wc => a = A0 ∧ Below w2.heap.size w2 wc
  | 1, a, wc => ∃ r' S cap base, a = A0.put (some 35) (.agg #[r', slc S W.ss.length cap]) ∧ RefW wc base S cap r' W ∧ w2.heap.size ≤ S ∧ w2.heap.size ≤ base ∧ base ≤ wc.heap.size ∧ Below w2.heap.size w2 wc
  | _, a, wc => ∃ r' r'' S cap base, a = (A0.put (some 35) (.agg #[r', slc S W.ss.length cap])).put (some 38) (.tuple #[.agg #[r'', slc S W.ss.length cap], .agg #[.int .i64 R.2.kind, .string R.2.text, .int .i64 st]]) ∧
      RefW wc base S cap r'' R.1 ∧ w2.heap.size ≤ S ∧ Below w2.heap.size w2 wc
def DJ' (w2 : World) (W : Wd) (R : Wd × Ans) (st : Int) (A0 : Act) (a : Act) (wc : World) : Prop :=
  ∃ r' r'' S cap base, a = ((((A0.put (some 35) (.agg #[r', slc S W.ss.length cap])).put (some 38) (.tuple #[.agg #[r'', slc S W.ss.length cap], .agg #[.int .i64 R.2.kind, .string R.2.text, .int .i64 st]])).put (some 33)
      (.tuple #[.agg #[r'', slc S W.ss.length cap], .agg #[.int .i64 R.2.kind, .string R.2.text, .int .i64 st]])).put (some 39) (.agg #[r'', slc S W.ss.length cap])).put (some 40) (.agg #[.int .i64 R.2.kind, .string R.2.text, .int .i64 st]) ∧
      RefW wc base S cap r'' R.1 ∧ w2.heap.size ≤ S ∧ Below w2.heap.size w2 wc
section
variable {w2 : World} {W : Wd} {R : Wd × Ans} {st : Int} {A0 : Act}
theorem bel_al {B : Nat} {a b : World} (h : Below B a b) (hB : B ≤ b.heap.size) (o : Obj) : Below B a (b.alloc o) := h.alloc hB o
theorem dj_alloc (c : Nat) (a : Act) (w : World) (o : Obj) (h : DJ w2 W R st A0 c a w) : DJ w2 W R st A0 c a (w.alloc o) := by
  have al := (Below.refl w.heap.size w).alloc (Nat.le_refl _) o
  match c, h with
  | 0, h => exact ⟨h.1, h.2.alloc h.2.size o⟩
  | 1, h =>
    obtain ⟨r', S, cap, base, h1, h2, h3, h4, h5, h6⟩ := h
    exact ⟨r', S, cap, base, h1, h2.below al, h3, h4, by rw [World.size_alloc]; omega, h6.alloc h6.size o⟩
  | c + 2, h =>
    obtain ⟨r', r'', S, cap, base, h1, h2, h3, h6⟩ := h
    exact ⟨r', r'', S, cap, base, h1, h2.below al, h3, h6.alloc h6.size o⟩
theorem dj'_alloc (a : Act) (w : World) (o : Obj) (h : DJ' w2 W R st A0 a w) : DJ' w2 W R st A0 a (w.alloc o) := by
  obtain ⟨r', r'', S, cap, base, h1, h2, h3, h6⟩ := h
  exact ⟨r', r'', S, cap, base, h1, h2.below ((Below.refl w.heap.size w).alloc (Nat.le_refl _) o), h3, h6.alloc h6.size o⟩
theorem dj_bel (c : Nat) (a : Act) (w : World) (h : DJ w2 W R st A0 c a w) : Below w2.heap.size w2 w := by
  match c, h with
  | 0, h => exact h.2
  | 1, h => obtain ⟨r', S, cap, base, h1, h2, h3, h4, h5, h6⟩ := h; exact h6
  | c + 2, h => obtain ⟨r', r'', S, cap, base, h1, h2, h3, h6⟩ := h; exact h6
theorem dj'_bel (a : Act) (w : World) (h : DJ' w2 W R st A0 a w) : Below w2.heap.size w2 w := by
  obtain ⟨r', r'', S, cap, base, h1, h2, h3, h6⟩ := h; exact h6
end

/-- DidOf's blocks ahead of its return -/
structure DofAt (w w9 : World) (b1 c1 base S cap n : Nat) (D8 : Option Addr) (d8 : Nat) (R : Wd × Ans) (st : Int) : Prop where
  ref : RefW w9 base S cap (.slice D8 R.1.rows.length d8) R.1
  res : RowTo w9 (w.heap.size + 1 + 1) 25 2 [.slice none 0 0, .slice none 0 0]
  ans : RowTo w9 (w.heap.size + 1 + 1 + 1) 30 3 [.int .i64 0, .string ⟨#[]⟩, .int .i64 0]
  b : RowTo w9 b1 25 2 [.slice D8 R.1.rows.length d8, .slice (some ⟨S, 0, none⟩) n cap]
  c : RowTo w9 c1 30 3 [.int .i64 R.2.kind, .string R.2.text, .int .i64 st]
  bel : Below w.heap.size w w9
theorem dof_at {w w2 wc : World} {r s : Value} {k : Int} {key val : ByteArray} {b1 c1 base S cap n : Nat} {D8 : Option Addr} {d8 : Nat} {R : Wd × Ans} {st : Int} (h2 : DoAt w w2 r s k key val) (hb : Below w2.heap.size w2 wc)
    (hr : RefW wc base S cap (.slice D8 R.1.rows.length d8) R.1) (hX : RowTo wc b1 25 2 [.slice none 0 0, .slice none 0 0]) (hY : RowTo wc c1 30 3 [.int .i64 0, .string ⟨#[]⟩, .int .i64 0])
    (hB : w2.heap.size ≤ b1) (hC : w2.heap.size ≤ c1) (hbc : b1 ≠ c1) (hbS : b1 ≠ S) (hcS : c1 ≠ S) :
    DofAt w (((((wc.setCell ⟨b1, 0, none⟩ (.slice D8 R.1.rows.length d8)).setCell ⟨b1, 1, none⟩ (.slice (some ⟨S, 0, none⟩) n cap)).setCell ⟨c1, 0, none⟩ (.int .i64 R.2.kind)).setCell ⟨c1, 1, none⟩ (.string R.2.text)).setCell ⟨c1, 2, none⟩ (.int .i64 st)) b1 c1 base S cap n D8 d8 R st := by
  have hsz := h2.size
  have hRl := h2.R.lt
  have hAl := h2.A.lt
  have e1 := hr.offN (R := b1) (by exact hbS) (noTwo_world hX) (w' := (wc.setCell ⟨b1, 0, none⟩ (.slice D8 R.1.rows.length d8)).setCell ⟨b1, 1, none⟩ (.slice (some ⟨S, 0, none⟩) n cap)) (by simp [World.setCell]) (fun b hb => by rw [Below.heap_setCell _ _ _ _ hb, Below.heap_setCell _ _ _ _ hb])
  have Y1 := (hY.other (p := ⟨b1, 0, none⟩) (by show b1 ≠ c1; exact hbc) (.slice D8 R.1.rows.length d8)).other (p := ⟨b1, 1, none⟩) (by show b1 ≠ c1; exact hbc) (.slice (some ⟨S, 0, none⟩) n cap)
  have e2 := e1.offN (R := c1) (by exact hcS) (noTwo_answer Y1) (w' := ((((wc.setCell ⟨b1, 0, none⟩ (.slice D8 R.1.rows.length d8)).setCell ⟨b1, 1, none⟩ (.slice (some ⟨S, 0, none⟩) n cap)).setCell ⟨c1, 0, none⟩ (.int .i64 R.2.kind)).setCell ⟨c1, 1, none⟩ (.string R.2.text)).setCell ⟨c1, 2, none⟩ (.int .i64 st)) (by simp [World.setCell]) (fun b hb => by rw [Below.heap_setCell _ _ _ _ hb, Below.heap_setCell _ _ _ _ hb, Below.heap_setCell _ _ _ _ hb])
  have far : ∀ (b : Nat) {t m : Nat} {xs : List Value}, RowTo wc b t m xs → b < w2.heap.size → RowTo (((((wc.setCell ⟨b1, 0, none⟩ (.slice D8 R.1.rows.length d8)).setCell ⟨b1, 1, none⟩ (.slice (some ⟨S, 0, none⟩) n cap)).setCell ⟨c1, 0, none⟩ (.int .i64 R.2.kind)).setCell ⟨c1, 1, none⟩ (.string R.2.text)).setCell ⟨c1, 2, none⟩ (.int .i64 st)) b t m xs := fun b t m xs hq hlt =>
    ((((hq.other (p := ⟨b1, 0, none⟩) (by show b1 ≠ b; omega) _).other (p := ⟨b1, 1, none⟩) (by show b1 ≠ b; omega) _).other (p := ⟨c1, 0, none⟩) (by show c1 ≠ b; omega) _).other (p := ⟨c1, 1, none⟩) (by show c1 ≠ b; omega) _).other (p := ⟨c1, 2, none⟩) (by show c1 ≠ b; omega) _
  have X2 := (hX.put (j := 0) (by simp) (.slice D8 R.1.rows.length d8)).put (j := 1) (by simp) (.slice (some ⟨S, 0, none⟩) n cap)
  have X3 := ((X2.other (p := ⟨c1, 0, none⟩) (by show c1 ≠ b1; exact Ne.symm hbc) (.int .i64 R.2.kind)).other (p := ⟨c1, 1, none⟩) (by show c1 ≠ b1; exact Ne.symm hbc) (.string R.2.text)).other (p := ⟨c1, 2, none⟩) (by show c1 ≠ b1; exact Ne.symm hbc) (.int .i64 st)
  have Y2 := ((Y1.put (j := 0) (by simp) (.int .i64 R.2.kind)).put (j := 1) (by simp) (.string R.2.text)).put (j := 2) (by simp) (.int .i64 st)
  refine ⟨e2, far _ (h2.R.below hb hRl) hRl, far _ (h2.A.below hb hAl) hAl, X3, Y2, ?_⟩
  have b9 := bel_add' h2.bel hb h2.bel.size
  exact ((((b9.setCell (by show w.heap.size ≤ b1; omega) _).setCell (by show w.heap.size ≤ b1; omega) _).setCell (by show w.heap.size ≤ c1; omega) _).setCell (by show w.heap.size ≤ c1; omega) _).setCell (by show w.heap.size ≤ c1; omega) _

set_option maxHeartbeats 4000000 in
theorem didOf_ok (r s : Value) (W : Wd) (i : Nat) (k : Int) (key val : ByteArray) (w : World) (hW : Wld w w.heap.size r s W) (hkz : key.size ≤ maxLen) (hvz : val.size ≤ maxLen) (he : doE W i k key val = 0) :
    Calls Tryd.prog 11 #[.agg #[r, s], .int .i64 i, .agg #[.int .i64 k, .string key, .string val]] w fun e w' => ∃ r' s', e = .returned (doGood r' s' (doM W i k key val).2 ((doM W i k key val).1.at i).st) ∧ Wld w' w'.heap.size r' s' (doM W i k key val).1 ∧ Below w.heap.size w w' := by
  obtain ⟨A, c, rfl, hc⟩ := hW.sess.form
  obtain ⟨D, d, rfl, hd⟩ := hW.rows.form
  have hby := hW.sess.bytes
  have HW := Lib.hid hW
  have H0 := Lib.hid (doAt0 w (.slice D W.rows.length d) (.slice A W.ss.length c) k key val)
  clear hW
  have hb : worldB W = true := by
    cases hb : worldB W
    · exfalso; unfold doE at he; rw [if_pos hb] at he; cases he
    · rfl
  have hi : ¬ ((i : Int) < 0 ∨ (W.ss.length : Int) ≤ i) := fun hi => by unfold doE at he; rw [if_neg (by rw [hb]; simp), if_pos hi] at he; cases he
  have hg : checkE k key val = 0 := by unfold doE at he; rw [if_neg (by rw [hb]; simp), if_neg hi] at he; exact he
  have hii : i < W.ss.length := by omega
  have HB := Lib.hid hb
  have HG := Lib.hid hg
  have HOK := Lib.hid (worldB_iff.1 hb)
  have HI := Lib.hid (inB_doE (W := W) (i := i) (by omega))
  have HN0 := Lib.hid (doM_ok (worldB_iff.1 hb) hii hg).2
  have HDD := Lib.hid (fun base S cap r' (wc : World) h1 h2 => dids_any base S cap r' W i k key val wc h1 (worldB_iff.1 hb) h2 hii hg)
  obtain ⟨st, HSt⟩ : ∃ st, Hid (((doM W i k key val).1.at i).st = st) := ⟨_, Lib.hid rfl⟩
  obtain ⟨R, HR⟩ : ∃ R, Hid (doM W i k key val = R) := ⟨_, Lib.hid rfl⟩
  rw [HSt.out] at HDD ⊢
  rw [HR.out] at HDD HN0 ⊢
  clear hb hg hi he HSt HR
  go_enter Tryd.func11, Tryd.ntmps11
  go_wp2_with fail
  refine (worldMay_any _ _ W _ (HW.out.step H0.out.bel)).mono ?_
  rw [HB.out]
  rintro e w1 ⟨rfl, hb1⟩
  have h1 := H0.out.below hb1
  have x1 := h1.X.cell (j := 1) (by simp)
  have y0 := h1.Y.cell (j := 0) (by simp)
  have y1 := h1.Y.cell (j := 1) (by simp)
  have y2 := h1.Y.cell (j := 2) (by simp)
  simp only [List.getElem_cons_zero, List.getElem_cons_succ] at x1 y0 y1 y2
  have H1 := Lib.hid h1
  clear hb1 h1
  go_wp2_with fail
  refine (in_any _ _ _ _).mono ?_
  rw [HI.out]
  rintro e w' ⟨rfl, rfl⟩
  go_wp2_with fail
  refine (stmtFault_any k key val hkz hvz _).mono ?_
  rw [HG.out]
  rintro e w2 ⟨rfl, hb2⟩
  have h2 := H1.out.below hb2
  clear x1 y0 y1 y2
  have x0 := h2.X.cell (j := 0) (by simp)
  have x1 := h2.X.cell (j := 1) (by simp)
  have y0 := h2.Y.cell (j := 0) (by simp)
  have y1 := h2.Y.cell (j := 1) (by simp)
  have y2 := h2.Y.cell (j := 2) (by simp)
  simp only [List.getElem_cons_zero, List.getElem_cons_succ] at x0 x1 y0 y1 y2
  have H2 := Lib.hid h2
  clear hb2 h2
  go_wp2_with fail
  have hX2 := H2.out.X.lt
  have hY2 := H2.out.Y.lt
  have hR2 := H2.out.R.lt
  have hA2 := H2.out.A.lt
  refine wp_region_z 11 (fun wx => wx.cell? ⟨w.heap.size, 0, none⟩ = some (.slice D W.rows.length d) ∧ wx.cell? ⟨w.heap.size, 1, none⟩ = some (.slice A W.ss.length c) ∧ wx.cell? ⟨w.heap.size + 1, 0, none⟩ = some (.int .i64 k) ∧ wx.cell? ⟨w.heap.size + 1, 1, none⟩ = some (.string key) ∧ wx.cell? ⟨w.heap.size + 1, 2, none⟩ = some (.string val)) (by kernel_rfl) (show w2.drew.cell? ⟨w.heap.size, 0, none⟩ = some (.slice D W.rows.length d) ∧ w2.drew.cell? ⟨w.heap.size, 1, none⟩ = some (.slice A W.ss.length c) ∧ w2.drew.cell? ⟨w.heap.size + 1, 0, none⟩ = some (.int .i64 k) ∧ w2.drew.cell? ⟨w.heap.size + 1, 1, none⟩ = some (.string key) ∧ w2.drew.cell? ⟨w.heap.size + 1, 2, none⟩ = some (.string val) from ⟨x0, x1, y0, y1, y2⟩) (fun hS => ?_)
  refine wpAnyZ_take (i := 0) (v := ?v0) rfl (by kernel_rfl) (by kernel_rfl) (by kernel_rfl) (by kernel_rfl) (fun _ _ _ h => h) (Or.inl ⟨by rfl, ?y0⟩) hS ?r0
  case y0 => (intro w hSw; (try dsimp only at hSw); (try simp only [List.getElem_toArray, List.getElem_cons_zero, List.getElem_cons_succ]); go_simp; try with_reducible rfl)
  (try simp only [List.getElem_toArray, List.getElem_cons_zero, List.getElem_cons_succ, Act.put, List.setIfInBounds_toArray, List.set_cons_zero, List.set_cons_succ])
  refine wpAnyZ_take (i := 2) (v := ?v2) rfl (by kernel_rfl) (by kernel_rfl) (by kernel_rfl) (by kernel_rfl) (fun _ _ _ h => h) (Or.inl ⟨by rfl, ?y2⟩) hS ?r2
  case y2 => (intro w hSw; (try dsimp only at hSw); (try simp only [List.getElem_toArray, List.getElem_cons_zero, List.getElem_cons_succ]); go_simp; try with_reducible rfl)
  (try simp only [List.getElem_toArray, List.getElem_cons_zero, List.getElem_cons_succ, Act.put, List.setIfInBounds_toArray, List.set_cons_zero, List.set_cons_succ])
  refine wpAnyZ_take (i := 3) (v := ?v3) rfl (by kernel_rfl) (by kernel_rfl) (by kernel_rfl) (by kernel_rfl) (fun _ _ _ h => h) (Or.inl ⟨by rfl, ?y3⟩) hS ?r3
  case y3 => (intro w hSw; (try dsimp only at hSw); (try simp only [List.getElem_toArray, List.getElem_cons_zero, List.getElem_cons_succ]); go_simp; try with_reducible rfl)
  (try simp only [List.getElem_toArray, List.getElem_cons_zero, List.getElem_cons_succ, Act.put, List.setIfInBounds_toArray, List.set_cons_zero, List.set_cons_succ])
  refine grid0 (C := 2) (cop := fun c => if c = 0 then 1 else 4) (dst := fun c => if c = 0 then 35 else 38) (p := 8) (q := 9) (dp := 10) (dq := 11) (tp := 25) (tq := 30) (zp := #[.slice none 0 0, .slice none 0 0]) (zq := #[.int .i64 0, .string ⟨#[]⟩, .int .i64 0])
    (Lst := fun c x y => #[true, decide (0 < c), true, true, decide (1 < c), false, false, false, x, y, false, false]) (Lst' := fun x y => #[true, true, true, true, true, true, true, true, x, y, false, false]) ?gG (DJ w2 W R st) (DJ' w2 W R st) 2 3 w2.heap.size (fun c a w o h => dj_alloc c a w o h) (fun a w o h => dj'_alloc a w o h) ?g3 ?g4 (fun c a w h => (dj_bel c a w h).size) (fun a w h => (dj'_bel a w h).size) ?g5 ?g6 ?g7 ⟨rfl, (Below.refl _ _).drew⟩
  case gG =>
    refine ⟨⟨_, rfl, rfl, rfl, fun ev w => (by go_simp; rfl)⟩, ⟨_, rfl, rfl, rfl, fun ev w => (by go_simp; rfl)⟩, (by decide), fun c h => (by split <;> decide), fun c x y h => ?_, fun x y h => (match x, y, h with | false, false, _ => (by kernel_rfl) | false, true, _ => (by kernel_rfl) | true, false, _ => (by kernel_rfl) | true, true, h => (by cases h)), fun c x y h => ?_, fun c y h => rfl, fun c x h => rfl, fun y => rfl, fun x => rfl⟩
    · match c, h with
      | 0, _ => cases x <;> cases y <;> (show _ = _; kernel_rfl)
      | 1, _ => cases x <;> cases y <;> (show _ = _; kernel_rfl)
    · match c, h with
      | 0, _ => rfl
      | 1, _ => rfl
  case g3 => exact fun c a wc h => ⟨((dj_bel c a wc h).cell (p := ⟨w.heap.size, 0, none⟩) hX2).trans x0, ((dj_bel c a wc h).cell (p := ⟨w.heap.size, 1, none⟩) hX2).trans x1, ((dj_bel c a wc h).cell (p := ⟨w.heap.size + 1, 0, none⟩) hY2).trans y0, ((dj_bel c a wc h).cell (p := ⟨w.heap.size + 1, 1, none⟩) hY2).trans y1, ((dj_bel c a wc h).cell (p := ⟨w.heap.size + 1, 2, none⟩) hY2).trans y2⟩
  case g4 => exact fun a wc h => ⟨((dj'_bel a wc h).cell (p := ⟨w.heap.size, 0, none⟩) hX2).trans x0, ((dj'_bel a wc h).cell (p := ⟨w.heap.size, 1, none⟩) hX2).trans x1, ((dj'_bel a wc h).cell (p := ⟨w.heap.size + 1, 0, none⟩) hY2).trans y0, ((dj'_bel a wc h).cell (p := ⟨w.heap.size + 1, 1, none⟩) hY2).trans y1, ((dj'_bel a wc h).cell (p := ⟨w.heap.size + 1, 2, none⟩) hY2).trans y2⟩
  case g5 =>
    intro c0 a wc x y hc0 hj hx hy
    match c0, hc0, hj with
    | 0, _, hj =>
      obtain ⟨rfl, hb⟩ := hj
      refine wpOp_wp rfl rfl (wp_call (g := 9) (args := #[.agg #[.slice D W.rows.length d, .slice A W.ss.length c]]) ?_ ?_)
      · cases x <;> cases y <;> (simp only [fr, pt, Act.put, List.setIfInBounds_toArray, List.set_cons_zero, List.set_cons_succ]; go_simp; try rfl)
      · refine (worldCopy_any _ _ W wc (HW.out.step (bel_add' H2.out.bel hb H2.out.bel.size))).mono ?_
        rintro e w3 ⟨r', s', rfl, hco⟩
        obtain ⟨S, cap, rfl, hS3, hR3⟩ := hco.ref (Nat.lt_of_le_of_lt (Nat.zero_le _) hii)
        exact ⟨_, rfl, _, rfl, ⟨r', S, cap, wc.heap.size, rfl, hR3, by have := hb.size; omega, hb.size, hco.bel.size, bel_add' hb hco.bel hb.size⟩, zs_below hx hco.bel, zs_below hy hco.bel⟩
    | 1, _, hj =>
      obtain ⟨r', S, cap, base, rfl, hR3, h3, h4, h5, hb⟩ := hj
      refine wpOp_wp rfl rfl (wp_call (g := 29) (args := #[.agg #[r', slc S W.ss.length cap], .int .i64 i, .agg #[.int .i64 k, .string key, .string val]]) ?_ ?_)
      · cases x <;> cases y <;> (simp only [fr, pt, Act.put, List.setIfInBounds_toArray, List.set_cons_zero, List.set_cons_succ]; go_simp; try rfl)
      · refine (HDD.out base S cap r' wc hR3 h5).mono ?_
        rintro e w4 ⟨r'', rfl, hR4, hbel, hrest⟩
        exact ⟨_, rfl, _, rfl, ⟨r', r'', S, cap, base, rfl, hR4, h3, hb.trans (hbel.mono h4)⟩, zs_but hx hR3.blk (by decide) hrest, zs_but hy hR3.blk (by decide) hrest⟩
  case g6 =>
    intro a wc x y n hj hx hy hk
    obtain ⟨r', r'', S, cap, base, rfl, hR4, h3, hb⟩ := hj
    have hS : wc.cell? ⟨w.heap.size, 0, none⟩ = some (.slice D W.rows.length d) ∧ wc.cell? ⟨w.heap.size, 1, none⟩ = some (.slice A W.ss.length c) ∧ wc.cell? ⟨w.heap.size + 1, 0, none⟩ = some (.int .i64 k) ∧ wc.cell? ⟨w.heap.size + 1, 1, none⟩ = some (.string key) ∧ wc.cell? ⟨w.heap.size + 1, 2, none⟩ = some (.string val) := ⟨(hb.cell (p := ⟨w.heap.size, 0, none⟩) hX2).trans x0, (hb.cell (p := ⟨w.heap.size, 1, none⟩) hX2).trans x1, (hb.cell (p := ⟨w.heap.size + 1, 0, none⟩) hY2).trans y0, (hb.cell (p := ⟨w.heap.size + 1, 1, none⟩) hY2).trans y1, (hb.cell (p := ⟨w.heap.size + 1, 2, none⟩) hY2).trans y2⟩
    have hk := hk _ ⟨r', r'', S, cap, base, rfl, hR4, h3, hb⟩
    clear hx hy hR4 h3
    cases x <;> cases y
    all_goals
      simp only [fr, pt, Act.put, List.setIfInBounds_toArray, List.set_cons_zero, List.set_cons_succ]
      simp only [fr, pt, Act.put, List.setIfInBounds_toArray, List.set_cons_zero, List.set_cons_succ] at hk
      refine wpAnyZ_take (i := 5) (v := ?_) rfl (by kernel_rfl) (by kernel_rfl) (by kernel_rfl) (by kernel_rfl) (fun _ _ _ h => h) (Or.inl ⟨by rfl, ?_⟩) hS ?_
      rotate_left
      · (intro w hSw; (try dsimp only at hSw); (try simp only [List.getElem_toArray, List.getElem_cons_zero, List.getElem_cons_succ]); go_simp; try with_reducible rfl)
      (try simp only [List.getElem_toArray, List.getElem_cons_zero, List.getElem_cons_succ, Act.put, List.setIfInBounds_toArray, List.set_cons_zero, List.set_cons_succ])
      refine wpAnyZ_take (i := 6) (v := ?_) rfl (by kernel_rfl) (by kernel_rfl) (by kernel_rfl) (by kernel_rfl) (fun _ _ _ h => h) (Or.inl ⟨by rfl, ?_⟩) hS ?_
      rotate_left
      · (intro w hSw; (try dsimp only at hSw); (try simp only [List.getElem_toArray, List.getElem_cons_zero, List.getElem_cons_succ]); go_simp; try with_reducible rfl)
      (try simp only [List.getElem_toArray, List.getElem_cons_zero, List.getElem_cons_succ, Act.put, List.setIfInBounds_toArray, List.set_cons_zero, List.set_cons_succ])
      refine wpAnyZ_take (i := 7) (v := ?_) rfl (by kernel_rfl) (by kernel_rfl) (by kernel_rfl) (by kernel_rfl) (fun _ _ _ h => h) (Or.inl ⟨by rfl, ?_⟩) hS ?_
      rotate_left
      · (intro w hSw; (try dsimp only at hSw); (try simp only [List.getElem_toArray, List.getElem_cons_zero, List.getElem_cons_succ]); go_simp; try with_reducible rfl)
      (try simp only [List.getElem_toArray, List.getElem_cons_zero, List.getElem_cons_succ, Act.put, List.setIfInBounds_toArray, List.set_cons_zero, List.set_cons_succ])
      exact hk
  case g7 =>
    intro a wc b1 c1 hj hx hy
    obtain ⟨r', r'', S, cap, base, rfl, hR4, h3, hb⟩ := hj
    have hS : wc.cell? ⟨w.heap.size, 0, none⟩ = some (.slice D W.rows.length d) ∧ wc.cell? ⟨w.heap.size, 1, none⟩ = some (.slice A W.ss.length c) ∧ wc.cell? ⟨w.heap.size + 1, 0, none⟩ = some (.int .i64 k) ∧ wc.cell? ⟨w.heap.size + 1, 1, none⟩ = some (.string key) ∧ wc.cell? ⟨w.heap.size + 1, 2, none⟩ = some (.string val) := ⟨(hb.cell (p := ⟨w.heap.size, 0, none⟩) hX2).trans x0, (hb.cell (p := ⟨w.heap.size, 1, none⟩) hX2).trans x1, (hb.cell (p := ⟨w.heap.size + 1, 0, none⟩) hY2).trans y0, (hb.cell (p := ⟨w.heap.size + 1, 1, none⟩) hY2).trans y1, (hb.cell (p := ⟨w.heap.size + 1, 2, none⟩) hY2).trans y2⟩
    have hB1 := (hx b1 rfl).1
    have hC1 := (hy c1 rfl).1
    have hX1 := zs_row hx
    have hY1 := zs_row hy
    have hbc : b1 ≠ c1 := fun e => by have h1 := (hx b1 rfl).2; have h2 := (hy c1 rfl).2; rw [e, h2] at h1; injection h1 with h1; injection h1 with _ h1 _; exact absurd h1 (by decide)
    have hbS : b1 ≠ S := fun e => by have h1 := (hx b1 rfl).2; obtain ⟨cur, hh, _⟩ := hR4.blk; rw [e, hh] at h1; injection h1 with h1; injection h1 with _ h1 _; exact absurd h1 (by decide)
    have hcS : c1 ≠ S := fun e => by have h1 := (hy c1 rfl).2; obtain ⟨cur, hh, _⟩ := hR4.blk; rw [e, hh] at h1; injection h1 with h1; injection h1 with _ h1 _; exact absurd h1 (by decide)
    obtain ⟨D8, d8, rfl, _⟩ := hR4.rows.form
    have HX1 := Lib.hid hX1
    have HY1 := Lib.hid hY1
    have HR4 := Lib.hid hR4
    have HBL := Lib.hid hb
    have z0 := hX1.cell (j := 0) (by simp)
    have z1 := hX1.cell (j := 1) (by simp)
    have f0 := hX1.frozen 0
    have f1 := hX1.frozen 1
    simp only [List.getElem_toArray, List.getElem_cons_zero, List.getElem_cons_succ] at z0 z1
    have HY2 := Lib.hid ((hY1.other (p := ⟨b1, 0, none⟩) (by show b1 ≠ c1; exact hbc) (.slice D8 R.1.rows.length d8)).other (p := ⟨b1, 1, none⟩) (by show b1 ≠ c1; exact hbc) (slc S W.ss.length cap))
    have nb0 : b1 ≠ w.heap.size := by omega
    have nb1 : b1 ≠ w.heap.size + 1 := by omega
    clear hX1 hY1 hR4 hx hy
    simp only [fr, pt, Act.put, List.setIfInBounds_toArray, List.set_cons_zero, List.set_cons_succ]
    refine wpAnyZ_one (i := 10) rfl rfl (by kernel_rfl) (fun K hK => ?_)
    (try simp only [List.getElem_toArray, List.getElem_cons_zero, List.getElem_cons_succ])
    unfold slc
    go_simp
    have hS2 := (show ((wc.setCell ⟨b1, 0, none⟩ (.slice D8 R.1.rows.length d8)).setCell ⟨b1, 1, none⟩ (slc S W.ss.length cap)).cell? ⟨w.heap.size, 0, none⟩ = some (.slice D W.rows.length d) ∧ ((wc.setCell ⟨b1, 0, none⟩ (.slice D8 R.1.rows.length d8)).setCell ⟨b1, 1, none⟩ (slc S W.ss.length cap)).cell? ⟨w.heap.size, 1, none⟩ = some (.slice A W.ss.length c) ∧ ((wc.setCell ⟨b1, 0, none⟩ (.slice D8 R.1.rows.length d8)).setCell ⟨b1, 1, none⟩ (slc S W.ss.length cap)).cell? ⟨w.heap.size + 1, 0, none⟩ = some (.int .i64 k) ∧ ((wc.setCell ⟨b1, 0, none⟩ (.slice D8 R.1.rows.length d8)).setCell ⟨b1, 1, none⟩ (slc S W.ss.length cap)).cell? ⟨w.heap.size + 1, 1, none⟩ = some (.string key) ∧ ((wc.setCell ⟨b1, 0, none⟩ (.slice D8 R.1.rows.length d8)).setCell ⟨b1, 1, none⟩ (slc S W.ss.length cap)).cell? ⟨w.heap.size + 1, 2, none⟩ = some (.string val) from ⟨cell_st (p := ⟨b1, 1, none⟩) nb0 (cell_st (p := ⟨b1, 0, none⟩) nb0 hS.1), cell_st (p := ⟨b1, 1, none⟩) nb0 (cell_st (p := ⟨b1, 0, none⟩) nb0 hS.2.1), cell_st (p := ⟨b1, 1, none⟩) nb1 (cell_st (p := ⟨b1, 0, none⟩) nb1 hS.2.2.1), cell_st (p := ⟨b1, 1, none⟩) nb1 (cell_st (p := ⟨b1, 0, none⟩) nb1 hS.2.2.2.1), cell_st (p := ⟨b1, 1, none⟩) nb1 (cell_st (p := ⟨b1, 0, none⟩) nb1 hS.2.2.2.2)⟩)
    refine hK.out _ _ hS2 ?_
    clear hK K hS
    have hS := hS2
    clear hS2
    (try simp only [List.getElem_toArray, List.getElem_cons_zero, List.getElem_cons_succ, Act.put, List.setIfInBounds_toArray, List.set_cons_zero, List.set_cons_succ])
    have p0 := HY2.out.cell (j := 0) (by simp)
    have p1 := HY2.out.cell (j := 1) (by simp)
    have p2 := HY2.out.cell (j := 2) (by simp)
    have g0 := HY2.out.frozen 0
    have g1 := HY2.out.frozen 1
    have g2 := HY2.out.frozen 2
    simp only [List.getElem_toArray, List.getElem_cons_zero, List.getElem_cons_succ] at p0 p1 p2
    unfold slc at p0 p1 p2 g0 g1 g2
    refine wpAnyZ_last rfl rfl (by kernel_rfl) (by kernel_rfl) (fun K hK => ?_)
    (try simp only [List.getElem_toArray, List.getElem_cons_zero, List.getElem_cons_succ])
    (try unfold slc)
    go_simp
    refine hK.out _ _ ?_
    clear hK K
    (try simp only [List.getElem_toArray, List.getElem_cons_zero, List.getElem_cons_succ, Act.put, List.setIfInBounds_toArray, List.set_cons_zero, List.set_cons_succ])
    have H9 := Lib.hid (dof_at (n := W.ss.length) (st := st) H2.out HBL.out HR4.out HX1.out HY1.out hB1 hC1 hbc hbS hcS)
    clear hS z0 z1 f0 f1 p0 p1 p2 g0 g1 g2 HY2 nb0 nb1
    generalize (((((wc.setCell ⟨b1, 0, none⟩ (.slice D8 R.1.rows.length d8)).setCell ⟨b1, 1, none⟩ (.slice (some ⟨S, 0, none⟩) W.ss.length cap)).setCell ⟨c1, 0, none⟩ (.int .i64 R.2.kind)).setCell ⟨c1, 1, none⟩ (.string R.2.text)).setCell ⟨c1, 2, none⟩ (.int .i64 st)) = W9 at *
    have q0 := H9.out.b.cell (j := 0) (by simp)
    have q1 := H9.out.b.cell (j := 1) (by simp)
    have p0 := H9.out.c.cell (j := 0) (by simp)
    have p1 := H9.out.c.cell (j := 1) (by simp)
    have p2 := H9.out.c.cell (j := 2) (by simp)
    have r0 := H9.out.res.cell (j := 0) (by simp)
    have r1 := H9.out.res.cell (j := 1) (by simp)
    have a0 := H9.out.ans.cell (j := 0) (by simp)
    have a1 := H9.out.ans.cell (j := 1) (by simp)
    have a2 := H9.out.ans.cell (j := 2) (by simp)
    have g0 := H9.out.res.frozen 0
    have g1 := H9.out.res.frozen 1
    have k0 := H9.out.ans.frozen 0
    have k1 := H9.out.ans.frozen 1
    have k2 := H9.out.ans.frozen 2
    simp only [List.getElem_cons_zero, List.getElem_cons_succ] at q0 q1 p0 p1 p2 r0 r1 a0 a1 a2
    have hsz := H2.out.size
    have hbR : b1 ≠ w.heap.size + 1 + 1 := by omega
    have hbA : b1 ≠ w.heap.size + 1 + 1 + 1 := by omega
    have hcR : c1 ≠ w.heap.size + 1 + 1 := by omega
    have hcA : c1 ≠ w.heap.size + 1 + 1 + 1 := by omega
    have hS3 : w.heap.size + 1 + 1 + 1 < S := by omega
    have HF := Lib.hid (fun x1 x2 x3 x4 x5 (w' : World) hh ht => didOf_fin (w' := w') HN0.out hS3 H9.out.ref H9.out.bel H9.out.res H9.out.ans x1 x2 x3 x4 x5 hh ht)
    have HSd := Lib.hid (show W9.drew.cell? ⟨b1, 0, none⟩ = some (.slice D8 R.1.rows.length d8) ∧ W9.drew.cell? ⟨b1, 1, none⟩ = some (.slice (some ⟨S, 0, none⟩) W.ss.length cap) ∧ W9.drew.cell? ⟨c1, 0, none⟩ = some (.int .i64 R.2.kind) ∧ W9.drew.cell? ⟨c1, 1, none⟩ = some (.string R.2.text) ∧ W9.drew.cell? ⟨c1, 2, none⟩ = some (.int .i64 st) from ⟨q0, q1, p0, p1, p2⟩)
    clear hB1 hC1 hbc hbS hcS
    go_wp2_with fail
    go_region_held3 (fun wx => wx.cell? ⟨b1, 0, none⟩ = some (.slice D8 R.1.rows.length d8) ∧ wx.cell? ⟨b1, 1, none⟩ = some (.slice (some ⟨S, 0, none⟩) W.ss.length cap) ∧ wx.cell? ⟨c1, 0, none⟩ = some (.int .i64 R.2.kind) ∧ wx.cell? ⟨c1, 1, none⟩ = some (.string R.2.text) ∧ wx.cell? ⟨c1, 2, none⟩ = some (.int .i64 st))
      (first
        | with_reducible exact ⟨q0, q1, p0, p1, p2⟩
        | with_reducible exact HSd.out
        | with_reducible exact ⟨cell_set3 (cell_set2 q0 hbR) hbA, cell_set3 (cell_set2 q1 hbR) hbA, cell_set3 (cell_set2 p0 hcR) hcA, cell_set3 (cell_set2 p1 hcR) hcA, cell_set3 (cell_set2 p2 hcR) hcA⟩
        | with_reducible exact ⟨cell_drew (cell_set3 (cell_set2 q0 hbR) hbA), cell_drew (cell_set3 (cell_set2 q1 hbR) hbA), cell_drew (cell_set3 (cell_set2 p0 hcR) hcA), cell_drew (cell_set3 (cell_set2 p1 hcR) hcA), cell_drew (cell_set3 (cell_set2 p2 hcR) hcA)⟩
        | with_reducible exact ⟨cell_drew (cell_set2 q0 hbR), cell_drew (cell_set2 q1 hbR), cell_drew (cell_set2 p0 hcR), cell_drew (cell_set2 p1 hcR), cell_drew (cell_set2 p2 hcR)⟩
        | with_reducible exact ⟨cell_set2 q0 hbR, cell_set2 q1 hbR, cell_set2 p0 hcR, cell_set2 p1 hcR, cell_set2 p2 hcR⟩)
      (fail)
    all_goals go_wp2
    all_goals refine bodyPost_ret (v := doGood (.slice D8 R.1.rows.length d8) (.slice (some ⟨S, 0, none⟩) W.ss.length cap) R.2 st) (by simp [results, Tryd.results11, go_sem, r0, r1, a0, a1, a2, doGood]) rfl ?_
    all_goals refine ⟨_, _, rfl, ?_⟩
    all_goals exact HF.out (.slice D8 R.1.rows.length d8) (.slice (some ⟨S, 0, none⟩) W.ss.length cap) (.int .i64 R.2.kind) (.string R.2.text) (.int .i64 st) _ (by rfl) ⟨by rfl, by rfl, by rfl⟩
end Go.Proofs.YtpbaobmegomfpabDoor

/-
  Walks of the law's comparisons: samePairs, sameWorld, where both sides read as the same.
-/
namespace Go.Proofs.YtpbaobmegomfpabDoor
open Go.RowKit
set_option linter.unusedVariables false
set_option maxRecDepth 100000

set_option maxHeartbeats 400000 in
theorem samePairs_same (v v' : Value) (l : PL) (w : World) (B : Nat) (hl : Lst w B v l) (hl' : Lst w B v' l) :
    Calls Tryd.prog 30 #[v, v'] w fun e w' => e = .returned (.bool true) ∧ ∃ n, w' = w.drewN n := by
  obtain ⟨A, c, rfl, hc⟩ := hl.form
  obtain ⟨A', c', rfl, hc'⟩ := hl'.form
  have hby := hl.bytes
  have HL := Lib.hid hl
  have HL' := Lib.hid hl'
  have hne : ((l.length : Int) != (l.length : Int)) = false := by simp
  clear hl hl'
  go_enter Tryd.func30, Tryd.ntmps30
  go_wp2
  go_loopw [5] (fun i wr => ∃ k : Nat, k ≤ l.length ∧ i = .int .i64 k ∧ ∃ n, wr = w.drewN n) (fun i _ => l.length - (intOf i).toNat)
  case atStart => exact ⟨0, by omega, rfl, 0, rfl⟩
  case round =>
    obtain ⟨k, hk, rfl, n, rfl⟩ := hrel
    by_cases hlt : k < l.length
    · obtain ⟨b, off, rfl, hb, c0, c1⟩ := HL.out.pt hlt
      obtain ⟨b', off', rfl, hb', c0', c1'⟩ := HL'.out.pt hlt
      go_wp2
      go_quiet (fail)
      go_wp2
      go_roundw
      case rel => exact ⟨k + 1, by omega, by go_num, n + nq, rfl⟩
      case measure => simp [intOf]; omega
    · go_wp2
      go_ret
      exact ⟨rfl, _, rfl⟩

theorem bel_addD {B n : Nat} {a b : World} (h : Below B a b) : Below B a (b.drewN n) := below_drewN h n
def SameRel (w : World) (r s r' s' : Value) (wr : World) : Prop :=
  RowTo wr w.heap.size 25 2 [r, s] ∧ RowTo wr (w.heap.size + 1) 25 2 [r', s'] ∧ Below w.heap.size w wr

set_option maxHeartbeats 2000000 in
theorem sameWorld_same (r s r' s' : Value) (W : Wd) (w : World) (hW : Wld w w.heap.size r s W) (hW' : Wld w w.heap.size r' s' W) :
    Calls Tryd.prog 12 #[.agg #[r, s], .agg #[r', s']] w fun e w' => e = .returned (.bool true) ∧ Below w.heap.size w w' := by
  obtain ⟨hr, hs⟩ := hW
  obtain ⟨hr', hs'⟩ := hW'
  obtain ⟨A, c, rfl, hc⟩ := hs.form
  obtain ⟨A', c', rfl, hc'⟩ := hs'.form
  obtain ⟨D, d, rfl, hd⟩ := hr.form
  obtain ⟨D', d', rfl, hd'⟩ := hr'.form
  have hby := hs.bytes
  have HS := Lib.hid hs
  have HS' := Lib.hid hs'
  have HR := Lib.hid hr
  have HR' := Lib.hid hr'
  have hne : ((W.ss.length : Int) != (W.ss.length : Int)) = false := by simp
  clear hs hs' hr hr'
  go_enter Tryd.func12, Tryd.ntmps12
  go_wp2_with fail
  have bel0 : Below w.heap.size w ((w.alloc (.cells #[.slice D W.rows.length d, .slice A W.ss.length c] 25)).alloc (.cells #[.slice D' W.rows.length d', .slice A' W.ss.length c'] 25)) := ((Below.refl _ _).alloc (Nat.le_refl _) _).alloc (by simp) _
  refine (samePairs_same _ _ W.rows _ _ (HR.out.step bel0) (HR'.out.step bel0)).mono ?_
  rintro e w1 ⟨rfl, n, rfl⟩
  go_wp2
  go_loopw [5] (fun i wr => ∃ k : Nat, k ≤ W.ss.length ∧ i = .int .i64 k ∧ SameRel w (.slice D W.rows.length d) (.slice A W.ss.length c) (.slice D' W.rows.length d') (.slice A' W.ss.length c') wr) (fun i _ => W.ss.length - (intOf i).toNat)
  case atStart =>
    refine ⟨0, by omega, rfl, ?_, ?_, below_drewN bel0 n⟩
    · exact ((RowTo.whole w #[.slice D W.rows.length d, .slice A W.ss.length c] 25).alloc _).drewN n
    · have := (RowTo.whole (w.alloc (.cells #[.slice D W.rows.length d, .slice A W.ss.length c] 25)) #[.slice D' W.rows.length d', .slice A' W.ss.length c'] 25).drewN n
      simpa using this
  case round =>
    clear bel0
    obtain ⟨k, hk, rfl, hb1, hb2, bel⟩ := hrel
    have x0 := hb1.cell (j := 0) (by simp)
    have x1 := hb1.cell (j := 1) (by simp)
    have y0 := hb2.cell (j := 0) (by simp)
    have y1 := hb2.cell (j := 1) (by simp)
    simp only [List.getElem_cons_zero, List.getElem_cons_succ] at x0 x1 y0 y1
    by_cases hlt : k < W.ss.length
    · obtain ⟨b, off, v1, v2, v3, v4, rfl, hb, hses⟩ := HS.out.pt hlt
      obtain ⟨b', off', v1', v2', v3', v4', rfl, hb', hses'⟩ := HS'.out.pt hlt
      generalize hsk : W.ss[k] = s at *
      have HK := Lib.hid hsk
      clear hsk
      obtain ⟨d0, d1, d2, d3, d4, l1, l2, l3, l4⟩ := hses.keep (w' := wr) hb (Nat.le_refl _) fun p hp => bel.cell hp
      obtain ⟨d0', d1', d2', d3', d4', l1', l2', l3', l4'⟩ := hses'.keep (w' := wr) hb' (Nat.le_refl _) fun p hp => bel.cell hp
      obtain ⟨A1, c1, rfl, _⟩ := l1.form
      obtain ⟨A2, c2, rfl, _⟩ := l2.form
      obtain ⟨A3, c3, rfl, _⟩ := l3.form
      obtain ⟨A4, c4, rfl, _⟩ := l4.form
      obtain ⟨A1', c1', rfl, _⟩ := l1'.form
      obtain ⟨A2', c2', rfl, _⟩ := l2'.form
      obtain ⟨A3', c3', rfl, _⟩ := l3'.form
      obtain ⟨A4', c4', rfl, _⟩ := l4'.form
      have H1 := Lib.hid hses
      have H2 := Lib.hid hses'
      have X1 := Lib.hid hb1
      have X2 := Lib.hid hb2
      have HB := Lib.hid bel
      have hst : (s.st != s.st) = false := by simp
      have hlt1 := hb1.lt
      have hlt2 := hb2.lt
      have hbw : b < wr.heap.size := Nat.lt_of_lt_of_le hb bel.size
      have hbw' : b' < wr.heap.size := Nat.lt_of_lt_of_le hb' bel.size
      clear hses hses' l1 l2 l3 l4 l1' l2' l3' l4' hb1 hb2 bel
      go_wp2_with fail
      have B0 := Lib.hid ((HB.out.alloc HB.out.size (.cells #[.int .i64 s.st, .slice A1 s.set.length c1, .slice A2 s.prep.length c2, .slice A3 s.sav.length c3, .slice A4 s.wr.length c4] 46)).alloc (by have := HB.out.size; simp; omega) (.cells #[.int .i64 s.st, .slice A1' s.set.length c1', .slice A2' s.prep.length c2', .slice A3' s.sav.length c3', .slice A4' s.wr.length c4'] 46))
      refine (samePairs_same _ _ s.set _ _ (H1.out.l1.step B0.out) (H2.out.l1.step B0.out)).mono ?_
      rintro e w1 ⟨rfl, n1, rfl⟩
      go_wp2_with fail
      refine (samePairs_same _ _ s.prep _ _ (H1.out.l2.step (below_drewN B0.out _)) (H2.out.l2.step (below_drewN B0.out _))).mono ?_
      rintro e w1 ⟨rfl, n2, rfl⟩
      go_wp2_with fail
      refine (samePairs_same _ _ s.sav _ _ (H1.out.l3.step (below_drewN B0.out _)) (H2.out.l3.step (below_drewN B0.out _))).mono ?_
      rintro e w1 ⟨rfl, n3, rfl⟩
      go_wp2_with fail
      refine (samePairs_same _ _ s.wr _ _ (H1.out.l4.step (below_drewN B0.out _)) (H2.out.l4.step (below_drewN B0.out _))).mono ?_
      rintro e w1 ⟨rfl, n4, rfl⟩
      go_wp2
      go_roundw
      case rel => exact ⟨k + 1, by omega, by go_num, ((X1.out.alloc _).alloc _).drewN _, ((X2.out.alloc _).alloc _).drewN _, below_drewN B0.out _⟩
      case measure => simp [intOf]; omega
    · go_wp2
      go_ret
      exact ⟨rfl, bel⟩
end Go.Proofs.YtpbaobmegomfpabDoor

/-
  From a row's list of variables to the cells of a table of strings.
-/
namespace Go.Proofs.YtpbaobmegomfpabDoor
open Go.RowKit
set_option linter.unusedVariables false

/-- a variable of the list, wherever it stands -/
theorem laid_mem {P : Program} {w : World} {n : String} {d : DataW Unit} : ∀ {l : List (String × DataW Unit)} {ps : List MemPlace}, DataW.LaidVars P w l ps → (n, d) ∈ l →
    ∃ g t cs fuel p, P.globalNamed n = some g ∧ (P.globals[g]?).map (·.type) = some t ∧ w.var? P n = some cs ∧ DataW.trod (fun _ => ()) P w 0 (fun _ => true) false fuel t cs.toList = some (d, p)
  | [], _, _, h => by cases h
  | (m, e) :: l, ps, hl, h => by
    obtain ⟨g, t, cs, fuel, p, q, h1, h2, h3, h4, h5, _⟩ := hl
    rcases List.mem_cons.1 h with he | he
    · cases he
      exact ⟨g, t, cs, fuel, p, h1, h2, h3, h4⟩
    · exact laid_mem h5 he

/-- an array of strings that reads as this list holds it, cell by cell -/
theorem strs_of {P : Program} {w : World} {fuel : Nat} {t e : TypeId} {n : Nat} {cs : List Value} {ss : List (List UInt8)} {p : List MemPlace}
    (ht : P.underlying t = some (.array n e)) (he : P.underlying e = some .string) (hce : P.cellsOf e = 1) (hct : P.cellsOf t = n)
    (h : DataW.trod (fun _ => ()) P w 0 (fun _ => true) false fuel t cs = some (.agg (ss.map fun s => .lit (.string s)), p)) : cs = ss.map fun s => Value.string ⟨s.toArray⟩ := by
  cases fuel with
  | zero => simp [DataW.trod] at h
  | succ fuel =>
    simp only [DataW.trod, ht, hce, hct, Nat.mul_one] at h
    split at h
    · obtain ⟨xs, hm, hx⟩ := Option.map_eq_some_iff.1 h
      have hxs : xs.map (·.1) = ss.map fun s => (DataW.lit (.string s) : DataW Unit) := by
        have := congrArg Prod.fst hx
        simpa using this
      have hxl : xs.length = n := by simpa using Lib.mapM_length hm
      have hzl : ss.length = n := by
        have := congrArg List.length hxs
        simp at this
        omega
      apply List.ext_getElem?
      intro i
      by_cases hi : i < n
      · obtain ⟨b, hb, hf⟩ := Lib.mapM_at hm i i (by simp [hi])
        obtain ⟨z, hc, rfl, _⟩ := DataW.trod_string he hf
        have h1 : cs[i]? = some (.string z) := by
          have := congrArg (·[0]?) hc
          simpa [List.getElem?_take, List.getElem?_drop] using this
        have h2 : (xs.map (·.1))[i]? = some (DataW.lit (.string z.data.toList) : DataW Unit) := by simp [hb]
        rw [hxs] at h2
        simp only [List.getElem?_map, Option.map_eq_some_iff, DataW.lit.injEq, Lit.string.injEq] at h2
        obtain ⟨s, hs, rfl⟩ := h2
        simp [h1, hs]
      · rw [List.getElem?_eq_none (by omega), List.getElem?_eq_none (by simp; omega)]
    · cases h

/-- a table of strings among the variables of a list -/
theorem tab_of {P : Program} {w : World} {n : String} {l : List (String × DataW Unit)} {ss : List (List UInt8)} {g : Nat} {t e : TypeId} {m : Nat}
    (hg : P.globalNamed n = some g) (hty : (P.globals[g]?).map (·.type) = some t) (ht : P.underlying t = some (.array m e)) (he : P.underlying e = some .string) (hce : P.cellsOf e = 1) (hct : P.cellsOf t = m)
    (h : laidMet P l w) (hin : (n, DataW.agg (ss.map fun s => .lit (.string s))) ∈ l) : g < w.heap.size ∧ ∀ i, i < ss.length → w.cell? ⟨g, i, none⟩ = some (.string ⟨(ss.getD i []).toArray⟩) := by
  obtain ⟨ps, hl, _⟩ := h
  obtain ⟨g', t', cs, fuel, p, h1, h2, h3, h4⟩ := laid_mem hl hin
  obtain rfl := Option.some.inj (hg.symm.trans h1)
  obtain rfl := Option.some.inj (hty.symm.trans h2)
  have hcs := strs_of ht he hce hct h4
  refine ⟨?_, fun i hi => ?_⟩
  · simp only [World.var?, hg, Option.bind_some] at h3
    split at h3
    · rename_i hh
      exact (Array.getElem?_eq_some_iff.1 hh).1
    · cases h3
  · rw [World.var?_cell hg h3 i]
    have : cs[i]? = cs.toList[i]? := by simp
    rw [this, hcs]
    simp [List.getD, hi]

end Go.Proofs.YtpbaobmegomfpabDoor

/-
  The table of the words, out of a row's list.
-/
namespace Go.Proofs.YtpbaobmegomfpabDoor
open Go.RowKit
set_option linter.unusedVariables false

theorem words_of {l : List (String × DataW Unit)} {w : World} (h : laidMet Tryd.prog l w) (hin : ("tillerman/say.words", DataW.agg ((List.range 12).map fun k => .lit (.string (wordL k)))) ∈ l) : Words w := by
  have h2 : ("tillerman/say.words", DataW.agg (((List.range 12).map wordL).map fun s => .lit (.string s))) ∈ l := by
    rw [List.map_map]; exact hin
  obtain ⟨h3, h4⟩ := tab_of (P := Tryd.prog) (g := 0) (t := 110) (e := 9) (m := 12) (by kernel_rfl) (by kernel_rfl) Tryd.underlying110 Tryd.underlying9 (by kernel_rfl) (by kernel_rfl) h h2
  refine ⟨h3, fun k hk => ?_⟩
  rw [h4 k (by simp; omega)]
  have : ((List.range 12).map wordL).getD k [] = wordL k := by
    simp [List.getD, show k < 12 by omega]
  rw [this]; rfl

end Go.Proofs.YtpbaobmegomfpabDoor

/-
  The walk of the law BackDoes.
-/
namespace Go.Proofs.YtpbaobmegomfpabDoor
open Go.RowKit
set_option linter.unusedVariables false
set_option linter.unusedSimpArgs false
set_option maxRecDepth 100000

theorem backDoes.laidFacts {W : World} (h : laidMetH Tryd.prog Rows.backDoesRow.laid W) : Words W := words_of h (by simp [Rows.backDoesRow, Rows.laid_tillerman_say_words, List.range, List.range.loop, wordL])
theorem Wld.zero_ (w : World) (B : Nat) : Wld w B (.slice none 0 0) (.slice none 0 0) ⟨[], []⟩ :=
  ⟨Lst.none_ _ _, ⟨none, 0, rfl, Nat.le_refl _⟩, by simp, fun h => absurd h (by simp)⟩
theorem cells2 {w : World} {g t n : Nat} {a b : Value} (h : RowTo w g t n [a, b]) : w.cell? ⟨g, 0, none⟩ = some a ∧ w.cell? ⟨g, 1, none⟩ = some b := ⟨h.cell (j := 0) (by simp), h.cell (j := 1) (by simp)⟩
theorem cells3 {w : World} {g t n : Nat} {a b c : Value} (h : RowTo w g t n [a, b, c]) : w.cell? ⟨g, 0, none⟩ = some a ∧ w.cell? ⟨g, 1, none⟩ = some b ∧ w.cell? ⟨g, 2, none⟩ = some c := ⟨h.cell (j := 0) (by simp), h.cell (j := 1) (by simp), h.cell (j := 2) (by simp)⟩
/-- what the two calls leave, with or without an error -/
structure BothDo (w2 w3 : World) (R : Wd) (r2 s2 r3 s3 : Value) : Prop where
  a : Wld w2 w2.heap.size r2 s2 R
  b : Wld w3 w3.heap.size r3 s3 R

set_option maxHeartbeats 2000000 in
theorem walk_BackDoes (r s : Value) (W : Wd) (i k : Int) (key val : ByteArray) (w : World) (hW : Wld w w.heap.size r s W) (hi : (Lit.int .i64 i).wf = true) (hk : (Lit.int .i64 k).wf = true) (hkz : key.size ≤ maxLen) (hvz : val.size ≤ maxLen) (hWo : Words w) :
    Calls Tryd.prog 3 #[.agg #[r, s], .int .i64 i, .agg #[.int .i64 k, .string key, .string val]] w fun e w' => e = .returned (.bool true) ∧ Below w.heap.size w w' := by
  obtain ⟨A, c, rfl, hc⟩ := hW.sess.form
  obtain ⟨D, d, rfl, hd⟩ := hW.rows.form
  have HW := Lib.hid hW
  have HWo := Lib.hid hWo
  -- what Do and DidOf return, at once
  obtain ⟨V, ak, at', st, en, HD, HF⟩ : ∃ (V : Wd) (ak : Int) (at' : ByteArray) (st en : Int),
      Hid (∀ (r s : Value) (w : World), Wld w w.heap.size r s W → Words w → Calls Tryd.prog 10 #[.agg #[r, s], .int .i64 i, .agg #[.int .i64 k, .string key, .string val]] w fun e w' => ∃ r' s', e = .returned (.tuple #[.agg #[r', s'], .agg #[.int .i64 ak, .string at', .int .i64 st], .int .i64 en]) ∧ Wld w' w'.heap.size r' s' V ∧ Below w.heap.size w w') ∧
      Hid (∀ (r s : Value) (w : World), Wld w w.heap.size r s W → Calls Tryd.prog 11 #[.agg #[r, s], .int .i64 i, .agg #[.int .i64 k, .string key, .string val]] w fun e w' => ∃ r' s', e = .returned (.tuple #[.agg #[r', s'], .agg #[.int .i64 ak, .string at', .int .i64 st], .int .i64 en]) ∧ Wld w' w'.heap.size r' s' V ∧ Below w.heap.size w w') := by
    by_cases he : doE W i k key val = 0
    · have hi0 : 0 ≤ i := by
        apply Classical.byContradiction
        intro hn
        unfold doE at he
        by_cases hb : worldB W = false
        · rw [if_pos hb] at he; cases he
        · rw [if_neg hb, if_pos (.inl (by omega))] at he; cases he
      obtain ⟨n, rfl⟩ : ∃ n : Nat, i = n := ⟨i.toNat, by omega⟩
      exact ⟨(doM W n k key val).1, (doM W n k key val).2.kind, (doM W n k key val).2.text, ((doM W n k key val).1.at n).st, 0, Lib.hid fun r s w h1 h2 => do_ok r s W n k key val w h1 h2 hkz hvz he, Lib.hid fun r s w h1 => didOf_ok r s W n k key val w h1 hkz hvz he⟩
    · refine ⟨⟨[], []⟩, 0, ⟨#[]⟩, 0, doE W i k key val, Lib.hid fun r s w h1 h2 => (do_no r s W i k key val w h1 h2 hkz hvz he).mono ?_, Lib.hid fun r s w h1 => (didOf_no r s W i k key val w h1 hkz hvz he).mono ?_⟩
      · rintro e w' ⟨rfl, hb⟩; exact ⟨_, _, rfl, Wld.zero_ _ _, hb⟩
      · rintro e w' ⟨rfl, hb⟩; exact ⟨_, _, rfl, Wld.zero_ _ _, hb⟩
  have b0 : Below w.heap.size w ((w.alloc (.cells #[.slice D W.rows.length d, .slice A W.ss.length c] 25)).alloc (.cells #[.int .i64 k, .string key, .string val] 27)) := ((Below.refl _ _).alloc (Nat.le_refl _) _).alloc (by simp) _
  have X0 := (RowTo.whole w #[.slice D W.rows.length d, .slice A W.ss.length c] 25).alloc (.cells #[.int .i64 k, .string key, .string val] 27)
  have Y0 := RowTo.whole (w.alloc (.cells #[.slice D W.rows.length d, .slice A W.ss.length c] 25)) #[.int .i64 k, .string key, .string val] 27
  rw [World.size_alloc] at Y0
  have HB0 := Lib.hid b0
  have HX0 := Lib.hid X0
  have HY0 := Lib.hid Y0
  clear hW hWo b0 X0 Y0 hi hk
  go_enter Tryd.func3, Tryd.ntmps3
  go_wp2_with fail
  refine (worldCopy_any _ _ W _ (HW.out.step HB0.out)).mono ?_
  rintro e w1 ⟨r1, s1, rfl, hco⟩
  obtain ⟨A1, c1, rfl, _⟩ := hco.wld.sess.form
  obtain ⟨D1, d1, rfl, _⟩ := hco.wld.rows.form
  have n1 := (Below.refl w1.heap.size w1).alloc (Nat.le_refl _) (.cells #[.slice D1 W.rows.length d1, .slice A1 W.ss.length c1] 25)
  have hz1 := hco.bel.size
  simp only [World.size_alloc] at hz1
  have HX1 := Lib.hid ((HX0.out.below hco.bel HX0.out.lt).below n1 (HX0.out.below hco.bel HX0.out.lt).lt)
  have HY1 := Lib.hid ((HY0.out.below hco.bel HY0.out.lt).below n1 (HY0.out.below hco.bel HY0.out.lt).lt)
  have HK1 := Lib.hid (RowTo.whole w1 #[.slice D1 W.rows.length d1, .slice A1 W.ss.length c1] 25)
  have HW1 := Lib.hid (hco.wld.step n1)
  have HB1 := Lib.hid (bel_add' (bel_add' HB0.out hco.bel HB0.out.size) n1 (bel_add' HB0.out hco.bel HB0.out.size).size)
  clear hco n1
  obtain ⟨y0, y1, y2⟩ := cells3 (HY1.out)
  clear HX0 HY0 HB0
  go_wp2_with fail
  refine (HD.out _ _ _ HW1.out (HWo.out.below HB1.out)).mono ?_
  rintro e w2 ⟨r2, s2, rfl, hw2, hb2⟩
  obtain ⟨A2, c2, rfl, _⟩ := hw2.sess.form
  obtain ⟨D2, d2, rfl, _⟩ := hw2.rows.form
  have hz2 := hb2.size
  simp only [World.size_alloc] at hz2
  have n2 := ((Below.refl w2.heap.size w2).alloc (Nat.le_refl _) (.cells #[.slice D2 V.rows.length d2, .slice A2 V.ss.length c2] 25)).alloc (by simp) (.cells #[.int .i64 ak, .string at', .int .i64 st] 30)
  have HX2 := Lib.hid ((HX1.out.below hb2 HX1.out.lt).below n2 (HX1.out.below hb2 HX1.out.lt).lt)
  have HY2 := Lib.hid ((HY1.out.below hb2 HY1.out.lt).below n2 (HY1.out.below hb2 HY1.out.lt).lt)
  have HK2 := Lib.hid ((HK1.out.below hb2 HK1.out.lt).below n2 (HK1.out.below hb2 HK1.out.lt).lt)
  have HA2 := Lib.hid ((RowTo.whole w2 #[.slice D2 V.rows.length d2, .slice A2 V.ss.length c2] 25).alloc (.cells #[.int .i64 ak, .string at', .int .i64 st] 30))
  have P2 := RowTo.whole (w2.alloc (.cells #[.slice D2 V.rows.length d2, .slice A2 V.ss.length c2] 25)) #[.int .i64 ak, .string at', .int .i64 st] 30
  rw [World.size_alloc] at P2
  have HP2 := Lib.hid P2
  have HW2 := Lib.hid (hw2.step n2)
  have HV2 := Lib.hid ((HW1.out.step hb2).step n2)
  have HB2 := Lib.hid (bel_add' (bel_add' HB1.out hb2 HB1.out.size) n2 (bel_add' HB1.out hb2 HB1.out.size).size)
  clear hw2 hb2 n2 P2 HX1 HY1 HK1 HW1 HB1 y0 y1 y2
  obtain ⟨x0, x1⟩ := cells2 (HX2.out)
  obtain ⟨y0, y1, y2⟩ := cells3 (HY2.out)
  go_wp2_with fail
  refine (HF.out _ _ _ (HW.out.step HB2.out)).mono ?_
  rintro e w3 ⟨r3, s3, rfl, hw3, hb3⟩
  obtain ⟨A3, c3, rfl, _⟩ := hw3.sess.form
  obtain ⟨D3, d3, rfl, _⟩ := hw3.rows.form
  have hz3 := hb3.size
  simp only [World.size_alloc] at hz3
  have n3 := ((Below.refl w3.heap.size w3).alloc (Nat.le_refl _) (.cells #[.slice D3 V.rows.length d3, .slice A3 V.ss.length c3] 25)).alloc (by simp) (.cells #[.int .i64 ak, .string at', .int .i64 st] 30)
  have HX3 := Lib.hid ((HX2.out.below hb3 HX2.out.lt))
  have HK3 := Lib.hid ((HK2.out.below hb3 HK2.out.lt))
  have HA3 := Lib.hid ((HA2.out.below hb3 HA2.out.lt))
  have HP3 := Lib.hid ((HP2.out.below hb3 HP2.out.lt))
  have HW3 := Lib.hid (hw3.step n3)
  have HU3 := Lib.hid ((HW2.out.step hb3).step n3)
  have HV3 := Lib.hid ((HV2.out.step hb3).step n3)
  have HB3 := Lib.hid (bel_add' (bel_add' HB2.out hb3 HB2.out.size) n3 (bel_add' HB2.out hb3 HB2.out.size).size)
  clear hw3 hb3 n3 HX2 HY2 HK2 HA2 HP2 HB2 x0 x1 y0 y1 y2
  obtain ⟨x0, x1⟩ := cells2 (HX3.out)
  obtain ⟨k0, k1⟩ := cells2 (HK3.out)
  obtain ⟨a0, a1⟩ := cells2 (HA3.out)
  obtain ⟨p0, p1, p2⟩ := cells3 (HP3.out)
  have lx := HX3.out.lt
  have lk := HK3.out.lt
  have la := HA3.out.lt
  have lp := HP3.out.lt
  go_wp2_with fail
  refine (sameWorld_same _ _ _ _ V _ HU3.out HW3.out).mono ?_
  rintro e w4 ⟨rfl, hb4⟩
  have hz4 := hb4.size
  simp only [World.size_alloc] at hz4
  have HX4 := Lib.hid ((((HX3.out.alloc (.cells #[.slice D3 V.rows.length d3, .slice A3 V.ss.length c3] 25)).alloc (.cells #[.int .i64 ak, .string at', .int .i64 st] 30)).below hb4 (by simp; omega)))
  have HK4 := Lib.hid ((((HK3.out.alloc (.cells #[.slice D3 V.rows.length d3, .slice A3 V.ss.length c3] 25)).alloc (.cells #[.int .i64 ak, .string at', .int .i64 st] 30)).below hb4 (by simp; omega)))
  clear x0 x1 k0 k1 a0 a1 p0 p1 p2
  obtain ⟨x0, x1⟩ := cells2 (HX4.out)
  obtain ⟨k0, k1⟩ := cells2 (HK4.out)
  go_wp2_with fail
  refine (sameWorld_same _ _ _ _ W _ (HV3.out.step hb4) ((HW.out.step HB3.out).step hb4)).mono ?_
  rintro e w5 ⟨rfl, hb5⟩
  go_wp2
  go_ret
  exact ⟨rfl, bel_add' (bel_add' HB3.out hb4 HB3.out.size) hb5 (bel_add' HB3.out hb4 HB3.out.size).size⟩
end Go.Proofs.YtpbaobmegomfpabDoor

