/-
  Texts of the proof, one behind the other: WldP, OpenW, Math4, PoolM, PoolM2, PoolM3, PoolM4, RawM, BackLaws, OpenR, Itoa, Picked, RawS.
-/
import Derived.Test.YtpbaobmegomfpabDoorM4
import Derived.Test.YtpbaobmegomfpabDoorM1
import Derived.Test.YtpbaobmegomfpabDoorRows
import Derived.Deep.Slices
import Derived.Deep.SlicePairs
import Derived.SizedLaws
import Derived.ProofKit
import Derived.Lib.SmallJoins
import Derived.Test.YtpbaobmegomfpabDoorM2
import Derived.WalkKit
import Derived.WalkSpells
import Derived.WalkLawsBesides
import Derived.Lib.Hide
/-
  A world as a value whose blocks all have a property.
-/
namespace Go.Proofs.YtpbaobmegomfpabDoor
open Go.RowKit
set_option linter.unusedVariables false
set_option linter.unusedSimpArgs false
set_option maxRecDepth 100000

theorem EndR.wldP {w : World} {base X S : Nat} {r : Value} {W : Wd} (h : EndR w base X S r W) : WldP w (fun b => base ≤ b) r (slc S W.ss.length W.ss.length) W := by
  obtain ⟨hbox, hw, hlr⟩ := h.box
  refine ⟨hw, fun _ b off n c e => hlr ⟨b, off, none⟩ n c e, fun hn b off n c e => ?_⟩
  unfold slc at e
  injection e with e
  injection e with e
  injection e with e1 e2
  subst e1 e2
  refine ⟨h.loS, fun k j v hk hj hv _ b off n c e => ?_⟩
  rw [Nat.zero_add] at hv
  exact h.los k j v hk hj hv ⟨b, off, none⟩ n c e
set_option maxHeartbeats 2000000 in
theorem do_lo (r s : Value) (W : Wd) (i : Nat) (k : Int) (key val : ByteArray) (w : World) (hW : Wld w w.heap.size r s W) (hWo : Words w) (hkz : key.size ≤ maxLen) (hvz : val.size ≤ maxLen) (he : doE W i k key val = 0) :
    Calls Tryd.prog 10 #[.agg #[r, s], .int .i64 i, .agg #[.int .i64 k, .string key, .string val]] w fun e w' => ∃ r' s', e = .returned (doGood r' s' (doM W i k key val).2 ((doM W i k key val).1.at i).st) ∧ WldP w' (fun b => w.heap.size ≤ b) r' s' (doM W i k key val).1 ∧ Below w.heap.size w w' := by
  obtain ⟨A, c, rfl, hc⟩ := hW.sess.form
  obtain ⟨D, d, rfl, hd⟩ := hW.rows.form
  have HW := Lib.hid hW
  have HWo := Lib.hid hWo
  have t : (doE W i k key val != 0) = false := bne_eq_false_iff_eq.2 he
  obtain ⟨hwb, hi, hchk⟩ : worldB W = true ∧ i < W.ss.length ∧ checkE k key val = 0 := by
    unfold doE at he
    split at he
    · cases he
    · rename_i h1
      split at he
      · cases he
      · rename_i h2
        exact ⟨by simpa using h1, by omega, he⟩
  have hwo := worldB_iff.1 hwb
  have hz := worldOk_sz hwo
  have HZ := Lib.hid hz
  have HK := Lib.hid hchk
  have HWK := Lib.hid hwo
  clear hwb hwo hz hchk
  have H0 := Lib.hid (doAt0 w (.slice D W.rows.length d) (.slice A W.ss.length c) k key val)
  clear hW hWo he
  go_enter Tryd.func10, Tryd.ntmps10
  go_wp2_with fail
  refine (checkDo_any _ _ W i k key val _ (HW.out.step H0.out.bel) (HWo.out.below H0.out.bel) hkz hvz).mono ?_
  rintro e w1 ⟨rfl, hb1⟩
  have h1 := H0.out.below hb1
  have x0 := h1.X.cell (j := 0) (by simp)
  have x1 := h1.X.cell (j := 1) (by simp)
  have y0 := h1.Y.cell (j := 0) (by simp)
  have y1 := h1.Y.cell (j := 1) (by simp)
  have y2 := h1.Y.cell (j := 2) (by simp)
  simp only [List.getElem_cons_zero, List.getElem_cons_succ] at x0 x1 y0 y1 y2
  have H1 := Lib.hid h1
  clear hb1 h1
  go_wp2_with fail
  refine (copy_any _ _ W _ (HW.out.step H1.out.bel)).mono ?_
  rintro e w2 ⟨gR, S, G, rfl, hown, hb2⟩
  have h2 := H1.out.below hb2
  have hD := hown.ownD h2.X (by have := H1.out.size; omega) HZ.out
  have hlo : LoD w.heap.size w.heap.size S gR G W.ss.length := ⟨Nat.le_refl _, by have := hown.loS; have := H1.out.size; omega, by have := hown.loR; have := H1.out.size; omega, fun i j hi hj => by have := hown.sess.lo i j hi hj; have := H1.out.size; omega⟩
  have HD := Lib.hid hD
  have HO := Lib.hid hown
  have H2 := Lib.hid h2
  have HLO := Lib.hid hlo
  obtain ⟨u0, x0⟩ := h2.X.any (j := 0) (by omega)
  obtain ⟨u1, x1⟩ := h2.X.any (j := 1) (by omega)
  have f0 := h2.X.frozen 0
  have f1 := h2.X.frozen 1
  have y0 := h2.Y.cell (j := 0) (by simp)
  have y1 := h2.Y.cell (j := 1) (by simp)
  have y2 := h2.Y.cell (j := 2) (by simp)
  simp only [List.getElem_cons_zero, List.getElem_cons_succ] at y0 y1 y2
  clear hb2 h2 hD hown hlo
  unfold sl at HD ⊢
  go_wp2_with fail
  have hfine := didM_ok HWK.out hi HK.out
  have htx := (didM_ans HWK.out hi k key val).len
  obtain ⟨q, hq⟩ : ∃ q, q = didM W i k key val := ⟨_, rfl⟩
  have HE := Lib.hid (execute_any w.heap.size w.heap.size S gR W.rows.length G (fun i j => ((W.at i).li j).length) W i k key val _ HD.out HLO.out HWK.out (by have := H2.out.size; simp [World.setCell]; omega) hi HK.out (HWo.out.below ((H2.out.bel.setCell (Nat.le_refl _) _).setCell (Nat.le_refl _) _)))
  rw [← hq] at HE hfine htx
  refine HE.out.mono ?_
  rintro e w4 hp
  obtain rfl := hp.1
  have hsz : ∀ u v, ((w2.setCell ⟨w.heap.size, 0, none⟩ u).setCell ⟨w.heap.size, 1, none⟩ v).heap.size = w2.heap.size := fun u v => by simp [World.setCell]
  have hrest : ∀ b, w.heap.size < b → b < w.heap.size + 1 + 1 + 1 + 1 → w4.heap[b]? = w2.heap[b]? := fun b h1 h2 => by
    have h3 := H2.out.size
    have h4 := HO.out.loS
    have h5 := HO.out.loR
    have h6 := H1.out.size
    rw [hp.2.2.2 b (by rw [hsz]; omega) (by omega) (by omega) (by omega) (fun i j hi hj => by have := HO.out.sess.lo i j hi hj; omega), Below.heap_setCell _ _ _ _ (by show b ≠ w.heap.size; omega), Below.heap_setCell _ _ _ _ (by show b ≠ w.heap.size; omega)]
  have R4 := H2.out.R.same (hrest _ (by omega) (by omega))
  have A4 := H2.out.A.same (hrest _ (by omega) (by omega))
  obtain ⟨rv, hEnd⟩ := hp.2.1.r
  have hBel : Below w.heap.size w w4 := ((H2.out.bel.setCell (Nat.le_refl _) _).setCell (Nat.le_refl _) _).trans hp.2.2.1
  obtain ⟨hbox, hwl, hlr⟩ := hEnd.box
  have hqi : i < q.1.ss.length := by rw [hfine.2]; exact hi
  obtain ⟨v1, v2, v3, v4, hses⟩ := hEnd.sess hqi
  have hsi := hses.c0
  obtain ⟨rA, rc, rfl, _⟩ := hwl.rows.form
  have z0 := hbox.cell (j := 0) (by simp)
  have z1 := hbox.cell (j := 1) (by simp)
  simp only [List.getElem_cons_zero, List.getElem_cons_succ] at z0 z1
  unfold slc at z1
  have hqi' : (i : Int) < (q.1.ss.length : Int) := by omega
  have hSw := hEnd.blk.lt
  have hXw := hbox.lt
  have fS0 := hEnd.blk.frozen (i * 5)
  have fS4 := hEnd.blk.frozen (i * 5 + 4)
  obtain ⟨u4, uS4⟩ := hEnd.blk.any (j := i * 5 + 4) (by omega)
  have hRw := R4.lt
  have hAw := A4.lt
  have hXS : w.heap.size ≠ S := fun e => by have := HO.out.loS; have := H1.out.size; omega
  have HP := Lib.hid hEnd
  have HB := Lib.hid hBel
  have HR := Lib.hid R4
  have HA := Lib.hid A4
  have HF := Lib.hid hfine
  have HQ := Lib.hid hq
  clear hp hrest R4 A4 hEnd hBel hbox hwl hlr hses hfine hq HE hsz x0 x1 f0 f1 y0 y1 y2
  unfold ansV
  have hRS : w.heap.size + 1 + 1 ≠ S := fun e => by have := HO.out.loS; have := H1.out.size; omega
  have hRS3 : w.heap.size + 1 + 1 + 1 ≠ S := fun e => by have := HO.out.loS; have := H1.out.size; omega
  by_cases hcase : q.2.kind = 4 ∧ q.1.ss[i].st = 1
  · have c1 : (q.2.kind == 4) = true := beq_iff_eq.2 hcase.1
    have c2 : (q.1.ss[i].st == 1) = true := beq_iff_eq.2 hcase.2
    have HC := Lib.hid hcase
    clear hcase
    go_wp2
    have hE5 := (HP.out.failed hqi hXS).below ((Below.refl _ _).alloc (Nat.le_refl _) (.cells #[.int .i64 q.2.kind, .string q.2.text, .int .i64 0] 30))
    have hR5 := ((HR.out.other (p := ⟨S, i * 5, none⟩) (fun e => hRS e.symm) (.int .i64 2)).other (p := ⟨S, i * 5 + 4, none⟩) (fun e => hRS e.symm) (.slice none 0 0)).alloc (.cells #[.int .i64 q.2.kind, .string q.2.text, .int .i64 0] 30)
    have hA5' := ((HA.out.other (p := ⟨S, i * 5, none⟩) (fun e => hRS3 e.symm) (.int .i64 2)).other (p := ⟨S, i * 5 + 4, none⟩) (fun e => hRS3 e.symm) (.slice none 0 0)).alloc (.cells #[.int .i64 q.2.kind, .string q.2.text, .int .i64 0] 30)
    have hB5 := ((HB.out.setCell (p := ⟨S, i * 5, none⟩) HLO.out.s (.int .i64 2)).setCell (p := ⟨S, i * 5 + 4, none⟩) HLO.out.s (.slice none 0 0)).alloc (by simp [World.setCell]; omega) (.cells #[.int .i64 q.2.kind, .string q.2.text, .int .i64 0] 30)
    have hz5 : (((w4.setCell ⟨S, i * 5, none⟩ (.int .i64 2)).setCell ⟨S, i * 5 + 4, none⟩ (.slice none 0 0)).alloc (.cells #[.int .i64 q.2.kind, .string q.2.text, .int .i64 0] 30)).heap.size = w4.heap.size + 1 := by simp [World.setCell]
    have hNew := RowTo.whole ((w4.setCell ⟨S, i * 5, none⟩ (.int .i64 2)).setCell ⟨S, i * 5 + 4, none⟩ (.slice none 0 0)) #[.int .i64 q.2.kind, .string q.2.text, .int .i64 0] 30
    rw [show ((w4.setCell ⟨S, i * 5, none⟩ (.int .i64 2)).setCell ⟨S, i * 5 + 4, none⟩ (.slice none 0 0)).heap.size = w4.heap.size by simp [World.setCell]] at hNew
    have hq5 : i < (q.1.put i { q.1.ss[i] with st := 2, wr := [] }).ss.length := by rw [wput_len]; exact hqi
    have hst5 : (q.1.put i { q.1.ss[i] with st := 2, wr := [] }).ss[i].st = 2 := by simp [Wd.put]
    obtain ⟨u1, u2, u3, u5, hs5⟩ := hE5.sess hq5
    have s0 := hs5.c0
    rw [hst5] at s0
    have zn : ∀ j u, w4.cell? ⟨w.heap.size, j, none⟩ = some u → (((w4.setCell ⟨S, i * 5, none⟩ (.int .i64 2)).setCell ⟨S, i * 5 + 4, none⟩ (.slice none 0 0)).alloc (.cells #[.int .i64 q.2.kind, .string q.2.text, .int .i64 0] 30)).cell? ⟨w.heap.size, j, none⟩ = some u := fun j u h => by rw [World.cell?_alloc_lt _ _ _ (by simp [World.setCell]; omega), World.cell?_setCell_other _ _ _ _ (fun e => by injection e with e; exact hXS e.symm), World.cell?_setCell_other _ _ _ _ (fun e => by injection e with e; exact hXS e.symm)]; exact h
    have z0 := zn 0 _ z0
    have z1 := zn 1 _ z1
    have a0 := hNew.cell (j := 0) (by simp)
    have a1 := hNew.cell (j := 1) (by simp)
    simp only [List.getElem_cons_zero, List.getElem_cons_succ] at a0 a1
    have hX5 : w.heap.size < (((w4.setCell ⟨S, i * 5, none⟩ (.int .i64 2)).setCell ⟨S, i * 5 + 4, none⟩ (.slice none 0 0)).alloc (.cells #[.int .i64 q.2.kind, .string q.2.text, .int .i64 0] 30)).heap.size := by rw [hz5]; omega
    have hA5 : w4.heap.size < (((w4.setCell ⟨S, i * 5, none⟩ (.int .i64 2)).setCell ⟨S, i * 5 + 4, none⟩ (.slice none 0 0)).alloc (.cells #[.int .i64 q.2.kind, .string q.2.text, .int .i64 0] 30)).heap.size := by rw [hz5]; omega
    have hS5 : S < (((w4.setCell ⟨S, i * 5, none⟩ (.int .i64 2)).setCell ⟨S, i * 5 + 4, none⟩ (.slice none 0 0)).alloc (.cells #[.int .i64 q.2.kind, .string q.2.text, .int .i64 0] 30)).heap.size := by rw [hz5]; omega
    have HDM := Lib.hid (show doM W i k key val = (q.1.put i { q.1.ss[i] with st := 2, wr := [] }, q.2) by rw [doM, ← HQ.out]; simp only [getD_at hqi]; rw [if_pos HC.out])
    have hXR : w.heap.size ≠ w.heap.size + 1 + 1 := by omega
    have hAR : w4.heap.size ≠ w.heap.size + 1 + 1 := by omega
    have hSR : S ≠ w.heap.size + 1 + 1 := fun e => hRS e.symm
    have hXA : w.heap.size ≠ w.heap.size + 1 + 1 + 1 := by omega
    have hAA : w4.heap.size ≠ w.heap.size + 1 + 1 + 1 := by omega
    have hSA : S ≠ w.heap.size + 1 + 1 + 1 := fun e => hRS3 e.symm
    have HR5 := Lib.hid hR5
    have HA5 := Lib.hid hA5'
    have HE5 := Lib.hid hE5
    have HB5 := Lib.hid hB5
    have hRw5 := hR5.lt
    have hAw5 := hA5'.lt
    clear hR5 hA5' hE5 hB5 zn hz5 hNew hs5 hst5 hq5
    generalize ((w4.setCell ⟨S, i * 5, none⟩ (.int .i64 2)).setCell ⟨S, i * 5 + 4, none⟩ (.slice none 0 0)).alloc (.cells #[.int .i64 q.2.kind, .string q.2.text, .int .i64 0] 30) = W5 at *
    have kb := Below.refl W5.heap.size W5
    have HS := Lib.hid (show W5.drew.cell? ⟨w.heap.size, 0, none⟩ = some (.slice rA q.1.rows.length rc) ∧ W5.drew.cell? ⟨w.heap.size, 1, none⟩ = some (.slice (some ⟨S, 0, none⟩) q.1.ss.length q.1.ss.length) ∧ W5.drew.cell? ⟨w4.heap.size, 0, none⟩ = some (.int .i64 q.2.kind) ∧ W5.drew.cell? ⟨w4.heap.size, 1, none⟩ = some (.string q.2.text) ∧ W5.drew.cell? ⟨S, i * 5, none⟩ = some (.int .i64 2) from ⟨z0, z1, a0, a1, s0⟩)
    go_region_held3 (fun wx => wx.cell? ⟨w.heap.size, 0, none⟩ = some (.slice rA q.1.rows.length rc) ∧ wx.cell? ⟨w.heap.size, 1, none⟩ = some (.slice (some ⟨S, 0, none⟩) q.1.ss.length q.1.ss.length) ∧ wx.cell? ⟨w4.heap.size, 0, none⟩ = some (.int .i64 q.2.kind) ∧ wx.cell? ⟨w4.heap.size, 1, none⟩ = some (.string q.2.text) ∧ wx.cell? ⟨S, i * 5, none⟩ = some (.int .i64 2))
      (first
        | with_reducible exact ⟨z0, z1, a0, a1, s0⟩
        | with_reducible exact HS.out
        | with_reducible exact ⟨(kb.cell (p := ⟨w.heap.size, 0, none⟩) hX5).trans z0, (kb.cell (p := ⟨w.heap.size, 1, none⟩) hX5).trans z1, (kb.cell (p := ⟨w4.heap.size, 0, none⟩) hA5).trans a0, (kb.cell (p := ⟨w4.heap.size, 1, none⟩) hA5).trans a1, (kb.cell (p := ⟨S, i * 5, none⟩) hS5).trans s0⟩
        | with_reducible exact ⟨cell_set3 (cell_set2 ((kb.cell (p := ⟨w.heap.size, 0, none⟩) hX5).trans z0) hXR) hXA, cell_set3 (cell_set2 ((kb.cell (p := ⟨w.heap.size, 1, none⟩) hX5).trans z1) hXR) hXA, cell_set3 (cell_set2 ((kb.cell (p := ⟨w4.heap.size, 0, none⟩) hA5).trans a0) hAR) hAA, cell_set3 (cell_set2 ((kb.cell (p := ⟨w4.heap.size, 1, none⟩) hA5).trans a1) hAR) hAA, cell_set3 (cell_set2 ((kb.cell (p := ⟨S, i * 5, none⟩) hS5).trans s0) hSR) hSA⟩
        | with_reducible exact ⟨cell_set2 ((kb.cell (p := ⟨w.heap.size, 0, none⟩) hX5).trans z0) hXR, cell_set2 ((kb.cell (p := ⟨w.heap.size, 1, none⟩) hX5).trans z1) hXR, cell_set2 ((kb.cell (p := ⟨w4.heap.size, 0, none⟩) hA5).trans a0) hAR, cell_set2 ((kb.cell (p := ⟨w4.heap.size, 1, none⟩) hA5).trans a1) hAR, cell_set2 ((kb.cell (p := ⟨S, i * 5, none⟩) hS5).trans s0) hSR⟩)
      (first
        | (
          go_at_call 25
          refine (clone_any q.2.text _ (by omega)).mono ?_
          rintro e w6 ⟨rfl, hy⟩
          have kb : Below W5.heap.size W5 w6 := by first | exact hy | exact bel_addN kb hy kb.size | exact bel_add kb hy kb.size
          have R6 := HR5.out.below kb hRw5
          have A6 := HA5.out.below kb hAw5
          have r0 := R6.cell (j := 0) (by simp)
          have r1 := R6.cell (j := 1) (by simp)
          have b0 := A6.cell (j := 0) (by simp)
          have b1 := A6.cell (j := 1) (by simp)
          have b2 := A6.cell (j := 2) (by simp)
          have g0 := R6.frozen 0
          have g1 := R6.frozen 1
          have k0 := A6.frozen 0
          have k1 := A6.frozen 1
          have k2 := A6.frozen 2
          simp only [List.getElem_cons_zero, List.getElem_cons_succ] at r0 r1 b0 b1 b2))
    all_goals go_wp2
    all_goals refine bodyPost_ret (v := doGood (.slice rA q.1.rows.length rc) (.slice (some ⟨S, 0, none⟩) q.1.ss.length q.1.ss.length) q.2 2) (by simp [results, Tryd.results10, go_sem, r0, r1, b0, b1, b2, doGood]) rfl ?_
    all_goals
      have hk1 : ∀ b, b ≠ w.heap.size + 1 + 1 → ((w6.setCell ⟨w.heap.size + 1 + 1, 0, none⟩ (.slice rA q.1.rows.length rc)).setCell ⟨w.heap.size + 1 + 1, 1, none⟩ (.slice (some ⟨S, 0, none⟩) q.1.ss.length q.1.ss.length)).heap[b]? = w6.heap[b]? := fun b hb => by rw [Below.heap_setCell _ _ _ _ hb, Below.heap_setCell _ _ _ _ hb]
      have e1 := (HE5.out.below kb).offN (R := w.heap.size + 1 + 1) (by omega) hSR (noTwo_world R6) (by simp [World.setCell]) hk1
      have A7 := (A6.other (p := ⟨w.heap.size + 1 + 1, 0, none⟩) (by show w.heap.size + 1 + 1 ≠ _; omega) (.slice rA q.1.rows.length rc)).other (p := ⟨w.heap.size + 1 + 1, 1, none⟩) (by show w.heap.size + 1 + 1 ≠ _; omega) (.slice (some ⟨S, 0, none⟩) q.1.ss.length q.1.ss.length)
      have hk2 : ∀ (x y z : Value) b, b ≠ w.heap.size + 1 + 1 + 1 → (((((w6.setCell ⟨w.heap.size + 1 + 1, 0, none⟩ (.slice rA q.1.rows.length rc)).setCell ⟨w.heap.size + 1 + 1, 1, none⟩ (.slice (some ⟨S, 0, none⟩) q.1.ss.length q.1.ss.length)).setCell ⟨w.heap.size + 1 + 1 + 1, 0, none⟩ x).setCell ⟨w.heap.size + 1 + 1 + 1, 1, none⟩ y).setCell ⟨w.heap.size + 1 + 1 + 1, 2, none⟩ z).heap[b]? = ((w6.setCell ⟨w.heap.size + 1 + 1, 0, none⟩ (.slice rA q.1.rows.length rc)).setCell ⟨w.heap.size + 1 + 1, 1, none⟩ (.slice (some ⟨S, 0, none⟩) q.1.ss.length q.1.ss.length)).heap[b]? := fun x y z b hb => by rw [Below.heap_setCell _ _ _ _ hb, Below.heap_setCell _ _ _ _ hb, Below.heap_setCell _ _ _ _ hb]
      have e2 := e1.offN (R := w.heap.size + 1 + 1 + 1) (w' := ((((w6.setCell ⟨w.heap.size + 1 + 1, 0, none⟩ (.slice rA q.1.rows.length rc)).setCell ⟨w.heap.size + 1 + 1, 1, none⟩ (.slice (some ⟨S, 0, none⟩) q.1.ss.length q.1.ss.length)).setCell ⟨w.heap.size + 1 + 1 + 1, 0, none⟩ (.int .i64 q.2.kind)).setCell ⟨w.heap.size + 1 + 1 + 1, 1, none⟩ (.string q.2.text)).setCell ⟨w.heap.size + 1 + 1 + 1, 2, none⟩ (.int .i64 2)) (by omega) (fun e => hRS3 e.symm) (noTwo_answer A7) (by simp [World.setCell]) (hk2 _ _ _)
      have bf := (((((HB5.out.trans (kb.mono (by omega))).setCell (p := ⟨w.heap.size + 1 + 1, 0, none⟩) (by show w.heap.size ≤ w.heap.size + 1 + 1; omega) (.slice rA q.1.rows.length rc)).setCell (p := ⟨w.heap.size + 1 + 1, 1, none⟩) (by show w.heap.size ≤ w.heap.size + 1 + 1; omega) (.slice (some ⟨S, 0, none⟩) q.1.ss.length q.1.ss.length)).setCell (p := ⟨w.heap.size + 1 + 1 + 1, 0, none⟩) (by show w.heap.size ≤ w.heap.size + 1 + 1 + 1; omega) (.int .i64 q.2.kind)).setCell (p := ⟨w.heap.size + 1 + 1 + 1, 1, none⟩) (by show w.heap.size ≤ w.heap.size + 1 + 1 + 1; omega) (.string q.2.text)).setCell (p := ⟨w.heap.size + 1 + 1 + 1, 2, none⟩) (by show w.heap.size ≤ w.heap.size + 1 + 1 + 1; omega) (.int .i64 2)
      rw [HDM.out]
      refine ⟨.slice rA q.1.rows.length rc, .slice (some ⟨S, 0, none⟩) q.1.ss.length q.1.ss.length, (by simp only [wput_at_ hqi]), ?_, bf⟩
      have HNl := e2.wldP
      rw [wput_len] at HNl
      exact HNl
  · have HC := Lib.hid hcase
    cases c1 : (q.2.kind == 4)
    · clear hcase
      go_wp2
      have hE5 := HP.out.below ((Below.refl _ _).alloc (Nat.le_refl _) (.cells #[.int .i64 q.2.kind, .string q.2.text, .int .i64 0] 30))
      have hR5 := HR.out.alloc (.cells #[.int .i64 q.2.kind, .string q.2.text, .int .i64 0] 30)
      have hA5' := HA.out.alloc (.cells #[.int .i64 q.2.kind, .string q.2.text, .int .i64 0] 30)
      have hB5 := HB.out.alloc (by omega) (.cells #[.int .i64 q.2.kind, .string q.2.text, .int .i64 0] 30)
      have hz5 : (w4.alloc (.cells #[.int .i64 q.2.kind, .string q.2.text, .int .i64 0] 30)).heap.size = w4.heap.size + 1 := by simp
      have hNew := RowTo.whole w4 #[.int .i64 q.2.kind, .string q.2.text, .int .i64 0] 30
      obtain ⟨u1, u2, u3, u5, hs5⟩ := hE5.sess hqi
      have s0 := hs5.c0
      have zn : ∀ j u, w4.cell? ⟨w.heap.size, j, none⟩ = some u → (w4.alloc (.cells #[.int .i64 q.2.kind, .string q.2.text, .int .i64 0] 30)).cell? ⟨w.heap.size, j, none⟩ = some u := fun j u h => by rw [World.cell?_alloc_lt _ _ _ hXw]; exact h
      have z0 := zn 0 _ z0
      have z1 := zn 1 _ z1
      have a0 := hNew.cell (j := 0) (by simp)
      have a1 := hNew.cell (j := 1) (by simp)
      simp only [List.getElem_cons_zero, List.getElem_cons_succ] at a0 a1
      have hX5 : w.heap.size < (w4.alloc (.cells #[.int .i64 q.2.kind, .string q.2.text, .int .i64 0] 30)).heap.size := by rw [hz5]; omega
      have hA5 : w4.heap.size < (w4.alloc (.cells #[.int .i64 q.2.kind, .string q.2.text, .int .i64 0] 30)).heap.size := by rw [hz5]; omega
      have hS5 : S < (w4.alloc (.cells #[.int .i64 q.2.kind, .string q.2.text, .int .i64 0] 30)).heap.size := by rw [hz5]; omega
      have HDM := Lib.hid (show doM W i k key val = q by rw [doM, ← HQ.out]; simp only [getD_at hqi]; rw [if_neg HC.out])
      have hXR : w.heap.size ≠ w.heap.size + 1 + 1 := by omega
      have hAR : w4.heap.size ≠ w.heap.size + 1 + 1 := by omega
      have hSR : S ≠ w.heap.size + 1 + 1 := fun e => hRS e.symm
      have hXA : w.heap.size ≠ w.heap.size + 1 + 1 + 1 := by omega
      have hAA : w4.heap.size ≠ w.heap.size + 1 + 1 + 1 := by omega
      have hSA : S ≠ w.heap.size + 1 + 1 + 1 := fun e => hRS3 e.symm
      have HR5 := Lib.hid hR5
      have HA5 := Lib.hid hA5'
      have HE5 := Lib.hid hE5
      have HB5 := Lib.hid hB5
      have hRw5 := hR5.lt
      have hAw5 := hA5'.lt
      clear hR5 hA5' hE5 hB5 zn hz5 hNew hs5
      generalize w4.alloc (.cells #[.int .i64 q.2.kind, .string q.2.text, .int .i64 0] 30) = W5 at *
      have kb := Below.refl W5.heap.size W5
      have HS := Lib.hid (show W5.drew.cell? ⟨w.heap.size, 0, none⟩ = some (.slice rA q.1.rows.length rc) ∧ W5.drew.cell? ⟨w.heap.size, 1, none⟩ = some (.slice (some ⟨S, 0, none⟩) q.1.ss.length q.1.ss.length) ∧ W5.drew.cell? ⟨w4.heap.size, 0, none⟩ = some (.int .i64 q.2.kind) ∧ W5.drew.cell? ⟨w4.heap.size, 1, none⟩ = some (.string q.2.text) ∧ W5.drew.cell? ⟨S, i * 5, none⟩ = some (.int .i64 q.1.ss[i].st) from ⟨z0, z1, a0, a1, s0⟩)
      go_region_held3 (fun wx => wx.cell? ⟨w.heap.size, 0, none⟩ = some (.slice rA q.1.rows.length rc) ∧ wx.cell? ⟨w.heap.size, 1, none⟩ = some (.slice (some ⟨S, 0, none⟩) q.1.ss.length q.1.ss.length) ∧ wx.cell? ⟨w4.heap.size, 0, none⟩ = some (.int .i64 q.2.kind) ∧ wx.cell? ⟨w4.heap.size, 1, none⟩ = some (.string q.2.text) ∧ wx.cell? ⟨S, i * 5, none⟩ = some (.int .i64 q.1.ss[i].st))
        (first
          | with_reducible exact ⟨z0, z1, a0, a1, s0⟩
          | with_reducible exact HS.out
          | with_reducible exact ⟨(kb.cell (p := ⟨w.heap.size, 0, none⟩) hX5).trans z0, (kb.cell (p := ⟨w.heap.size, 1, none⟩) hX5).trans z1, (kb.cell (p := ⟨w4.heap.size, 0, none⟩) hA5).trans a0, (kb.cell (p := ⟨w4.heap.size, 1, none⟩) hA5).trans a1, (kb.cell (p := ⟨S, i * 5, none⟩) hS5).trans s0⟩
          | with_reducible exact ⟨cell_set3 (cell_set2 ((kb.cell (p := ⟨w.heap.size, 0, none⟩) hX5).trans z0) hXR) hXA, cell_set3 (cell_set2 ((kb.cell (p := ⟨w.heap.size, 1, none⟩) hX5).trans z1) hXR) hXA, cell_set3 (cell_set2 ((kb.cell (p := ⟨w4.heap.size, 0, none⟩) hA5).trans a0) hAR) hAA, cell_set3 (cell_set2 ((kb.cell (p := ⟨w4.heap.size, 1, none⟩) hA5).trans a1) hAR) hAA, cell_set3 (cell_set2 ((kb.cell (p := ⟨S, i * 5, none⟩) hS5).trans s0) hSR) hSA⟩
          | with_reducible exact ⟨cell_set2 ((kb.cell (p := ⟨w.heap.size, 0, none⟩) hX5).trans z0) hXR, cell_set2 ((kb.cell (p := ⟨w.heap.size, 1, none⟩) hX5).trans z1) hXR, cell_set2 ((kb.cell (p := ⟨w4.heap.size, 0, none⟩) hA5).trans a0) hAR, cell_set2 ((kb.cell (p := ⟨w4.heap.size, 1, none⟩) hA5).trans a1) hAR, cell_set2 ((kb.cell (p := ⟨S, i * 5, none⟩) hS5).trans s0) hSR⟩)
        (first
          | (
            go_at_call 25
            refine (clone_any q.2.text _ (by omega)).mono ?_
            rintro e w6 ⟨rfl, hy⟩
            have kb : Below W5.heap.size W5 w6 := by first | exact hy | exact bel_addN kb hy kb.size | exact bel_add kb hy kb.size
            have R6 := HR5.out.below kb hRw5
            have A6 := HA5.out.below kb hAw5
            have r0 := R6.cell (j := 0) (by simp)
            have r1 := R6.cell (j := 1) (by simp)
            have b0 := A6.cell (j := 0) (by simp)
            have b1 := A6.cell (j := 1) (by simp)
            have b2 := A6.cell (j := 2) (by simp)
            have g0 := R6.frozen 0
            have g1 := R6.frozen 1
            have k0 := A6.frozen 0
            have k1 := A6.frozen 1
            have k2 := A6.frozen 2
            simp only [List.getElem_cons_zero, List.getElem_cons_succ] at r0 r1 b0 b1 b2))
      all_goals go_wp2
      all_goals refine bodyPost_ret (v := doGood (.slice rA q.1.rows.length rc) (.slice (some ⟨S, 0, none⟩) q.1.ss.length q.1.ss.length) q.2 q.1.ss[i].st) (by simp [results, Tryd.results10, go_sem, r0, r1, b0, b1, b2, doGood]) rfl ?_
      all_goals
        have hk1 : ∀ b, b ≠ w.heap.size + 1 + 1 → ((w6.setCell ⟨w.heap.size + 1 + 1, 0, none⟩ (.slice rA q.1.rows.length rc)).setCell ⟨w.heap.size + 1 + 1, 1, none⟩ (.slice (some ⟨S, 0, none⟩) q.1.ss.length q.1.ss.length)).heap[b]? = w6.heap[b]? := fun b hb => by rw [Below.heap_setCell _ _ _ _ hb, Below.heap_setCell _ _ _ _ hb]
        have e1 := (HE5.out.below kb).offN (R := w.heap.size + 1 + 1) (by omega) hSR (noTwo_world R6) (by simp [World.setCell]) hk1
        have A7 := (A6.other (p := ⟨w.heap.size + 1 + 1, 0, none⟩) (by show w.heap.size + 1 + 1 ≠ _; omega) (.slice rA q.1.rows.length rc)).other (p := ⟨w.heap.size + 1 + 1, 1, none⟩) (by show w.heap.size + 1 + 1 ≠ _; omega) (.slice (some ⟨S, 0, none⟩) q.1.ss.length q.1.ss.length)
        have hk2 : ∀ (x y z : Value) b, b ≠ w.heap.size + 1 + 1 + 1 → (((((w6.setCell ⟨w.heap.size + 1 + 1, 0, none⟩ (.slice rA q.1.rows.length rc)).setCell ⟨w.heap.size + 1 + 1, 1, none⟩ (.slice (some ⟨S, 0, none⟩) q.1.ss.length q.1.ss.length)).setCell ⟨w.heap.size + 1 + 1 + 1, 0, none⟩ x).setCell ⟨w.heap.size + 1 + 1 + 1, 1, none⟩ y).setCell ⟨w.heap.size + 1 + 1 + 1, 2, none⟩ z).heap[b]? = ((w6.setCell ⟨w.heap.size + 1 + 1, 0, none⟩ (.slice rA q.1.rows.length rc)).setCell ⟨w.heap.size + 1 + 1, 1, none⟩ (.slice (some ⟨S, 0, none⟩) q.1.ss.length q.1.ss.length)).heap[b]? := fun x y z b hb => by rw [Below.heap_setCell _ _ _ _ hb, Below.heap_setCell _ _ _ _ hb, Below.heap_setCell _ _ _ _ hb]
        have e2 := e1.offN (R := w.heap.size + 1 + 1 + 1) (w' := ((((w6.setCell ⟨w.heap.size + 1 + 1, 0, none⟩ (.slice rA q.1.rows.length rc)).setCell ⟨w.heap.size + 1 + 1, 1, none⟩ (.slice (some ⟨S, 0, none⟩) q.1.ss.length q.1.ss.length)).setCell ⟨w.heap.size + 1 + 1 + 1, 0, none⟩ (.int .i64 q.2.kind)).setCell ⟨w.heap.size + 1 + 1 + 1, 1, none⟩ (.string q.2.text)).setCell ⟨w.heap.size + 1 + 1 + 1, 2, none⟩ (.int .i64 q.1.ss[i].st)) (by omega) (fun e => hRS3 e.symm) (noTwo_answer A7) (by simp [World.setCell]) (hk2 _ _ _)
        have bf := (((((HB5.out.trans (kb.mono (by omega))).setCell (p := ⟨w.heap.size + 1 + 1, 0, none⟩) (by show w.heap.size ≤ w.heap.size + 1 + 1; omega) (.slice rA q.1.rows.length rc)).setCell (p := ⟨w.heap.size + 1 + 1, 1, none⟩) (by show w.heap.size ≤ w.heap.size + 1 + 1; omega) (.slice (some ⟨S, 0, none⟩) q.1.ss.length q.1.ss.length)).setCell (p := ⟨w.heap.size + 1 + 1 + 1, 0, none⟩) (by show w.heap.size ≤ w.heap.size + 1 + 1 + 1; omega) (.int .i64 q.2.kind)).setCell (p := ⟨w.heap.size + 1 + 1 + 1, 1, none⟩) (by show w.heap.size ≤ w.heap.size + 1 + 1 + 1; omega) (.string q.2.text)).setCell (p := ⟨w.heap.size + 1 + 1 + 1, 2, none⟩) (by show w.heap.size ≤ w.heap.size + 1 + 1 + 1; omega) (.int .i64 q.1.ss[i].st)
        rw [HDM.out]
        refine ⟨.slice rA q.1.rows.length rc, .slice (some ⟨S, 0, none⟩) q.1.ss.length q.1.ss.length, (by rw [getD_at hqi]), ?_, bf⟩
        exact e2.wldP
    · have c2 : (q.1.ss[i].st == 1) = false := beq_eq_false_iff_ne.2 fun h1 => hcase ⟨beq_iff_eq.1 c1, h1⟩
      clear hcase
      go_wp2
      have hE5 := HP.out.below ((Below.refl _ _).alloc (Nat.le_refl _) (.cells #[.int .i64 q.2.kind, .string q.2.text, .int .i64 0] 30))
      have hR5 := HR.out.alloc (.cells #[.int .i64 q.2.kind, .string q.2.text, .int .i64 0] 30)
      have hA5' := HA.out.alloc (.cells #[.int .i64 q.2.kind, .string q.2.text, .int .i64 0] 30)
      have hB5 := HB.out.alloc (by omega) (.cells #[.int .i64 q.2.kind, .string q.2.text, .int .i64 0] 30)
      have hz5 : (w4.alloc (.cells #[.int .i64 q.2.kind, .string q.2.text, .int .i64 0] 30)).heap.size = w4.heap.size + 1 := by simp
      have hNew := RowTo.whole w4 #[.int .i64 q.2.kind, .string q.2.text, .int .i64 0] 30
      obtain ⟨u1, u2, u3, u5, hs5⟩ := hE5.sess hqi
      have s0 := hs5.c0
      have zn : ∀ j u, w4.cell? ⟨w.heap.size, j, none⟩ = some u → (w4.alloc (.cells #[.int .i64 q.2.kind, .string q.2.text, .int .i64 0] 30)).cell? ⟨w.heap.size, j, none⟩ = some u := fun j u h => by rw [World.cell?_alloc_lt _ _ _ hXw]; exact h
      have z0 := zn 0 _ z0
      have z1 := zn 1 _ z1
      have a0 := hNew.cell (j := 0) (by simp)
      have a1 := hNew.cell (j := 1) (by simp)
      simp only [List.getElem_cons_zero, List.getElem_cons_succ] at a0 a1
      have hX5 : w.heap.size < (w4.alloc (.cells #[.int .i64 q.2.kind, .string q.2.text, .int .i64 0] 30)).heap.size := by rw [hz5]; omega
      have hA5 : w4.heap.size < (w4.alloc (.cells #[.int .i64 q.2.kind, .string q.2.text, .int .i64 0] 30)).heap.size := by rw [hz5]; omega
      have hS5 : S < (w4.alloc (.cells #[.int .i64 q.2.kind, .string q.2.text, .int .i64 0] 30)).heap.size := by rw [hz5]; omega
      have HDM := Lib.hid (show doM W i k key val = q by rw [doM, ← HQ.out]; simp only [getD_at hqi]; rw [if_neg HC.out])
      have hXR : w.heap.size ≠ w.heap.size + 1 + 1 := by omega
      have hAR : w4.heap.size ≠ w.heap.size + 1 + 1 := by omega
      have hSR : S ≠ w.heap.size + 1 + 1 := fun e => hRS e.symm
      have hXA : w.heap.size ≠ w.heap.size + 1 + 1 + 1 := by omega
      have hAA : w4.heap.size ≠ w.heap.size + 1 + 1 + 1 := by omega
      have hSA : S ≠ w.heap.size + 1 + 1 + 1 := fun e => hRS3 e.symm
      have HR5 := Lib.hid hR5
      have HA5 := Lib.hid hA5'
      have HE5 := Lib.hid hE5
      have HB5 := Lib.hid hB5
      have hRw5 := hR5.lt
      have hAw5 := hA5'.lt
      clear hR5 hA5' hE5 hB5 zn hz5 hNew hs5
      generalize w4.alloc (.cells #[.int .i64 q.2.kind, .string q.2.text, .int .i64 0] 30) = W5 at *
      have kb := Below.refl W5.heap.size W5
      have HS := Lib.hid (show W5.drew.cell? ⟨w.heap.size, 0, none⟩ = some (.slice rA q.1.rows.length rc) ∧ W5.drew.cell? ⟨w.heap.size, 1, none⟩ = some (.slice (some ⟨S, 0, none⟩) q.1.ss.length q.1.ss.length) ∧ W5.drew.cell? ⟨w4.heap.size, 0, none⟩ = some (.int .i64 q.2.kind) ∧ W5.drew.cell? ⟨w4.heap.size, 1, none⟩ = some (.string q.2.text) ∧ W5.drew.cell? ⟨S, i * 5, none⟩ = some (.int .i64 q.1.ss[i].st) from ⟨z0, z1, a0, a1, s0⟩)
      go_region_held3 (fun wx => wx.cell? ⟨w.heap.size, 0, none⟩ = some (.slice rA q.1.rows.length rc) ∧ wx.cell? ⟨w.heap.size, 1, none⟩ = some (.slice (some ⟨S, 0, none⟩) q.1.ss.length q.1.ss.length) ∧ wx.cell? ⟨w4.heap.size, 0, none⟩ = some (.int .i64 q.2.kind) ∧ wx.cell? ⟨w4.heap.size, 1, none⟩ = some (.string q.2.text) ∧ wx.cell? ⟨S, i * 5, none⟩ = some (.int .i64 q.1.ss[i].st))
        (first
          | with_reducible exact ⟨z0, z1, a0, a1, s0⟩
          | with_reducible exact HS.out
          | with_reducible exact ⟨(kb.cell (p := ⟨w.heap.size, 0, none⟩) hX5).trans z0, (kb.cell (p := ⟨w.heap.size, 1, none⟩) hX5).trans z1, (kb.cell (p := ⟨w4.heap.size, 0, none⟩) hA5).trans a0, (kb.cell (p := ⟨w4.heap.size, 1, none⟩) hA5).trans a1, (kb.cell (p := ⟨S, i * 5, none⟩) hS5).trans s0⟩
          | with_reducible exact ⟨cell_set3 (cell_set2 ((kb.cell (p := ⟨w.heap.size, 0, none⟩) hX5).trans z0) hXR) hXA, cell_set3 (cell_set2 ((kb.cell (p := ⟨w.heap.size, 1, none⟩) hX5).trans z1) hXR) hXA, cell_set3 (cell_set2 ((kb.cell (p := ⟨w4.heap.size, 0, none⟩) hA5).trans a0) hAR) hAA, cell_set3 (cell_set2 ((kb.cell (p := ⟨w4.heap.size, 1, none⟩) hA5).trans a1) hAR) hAA, cell_set3 (cell_set2 ((kb.cell (p := ⟨S, i * 5, none⟩) hS5).trans s0) hSR) hSA⟩
          | with_reducible exact ⟨cell_set2 ((kb.cell (p := ⟨w.heap.size, 0, none⟩) hX5).trans z0) hXR, cell_set2 ((kb.cell (p := ⟨w.heap.size, 1, none⟩) hX5).trans z1) hXR, cell_set2 ((kb.cell (p := ⟨w4.heap.size, 0, none⟩) hA5).trans a0) hAR, cell_set2 ((kb.cell (p := ⟨w4.heap.size, 1, none⟩) hA5).trans a1) hAR, cell_set2 ((kb.cell (p := ⟨S, i * 5, none⟩) hS5).trans s0) hSR⟩)
        (first
          | (
            go_at_call 25
            refine (clone_any q.2.text _ (by omega)).mono ?_
            rintro e w6 ⟨rfl, hy⟩
            have kb : Below W5.heap.size W5 w6 := by first | exact hy | exact bel_addN kb hy kb.size | exact bel_add kb hy kb.size
            have R6 := HR5.out.below kb hRw5
            have A6 := HA5.out.below kb hAw5
            have r0 := R6.cell (j := 0) (by simp)
            have r1 := R6.cell (j := 1) (by simp)
            have b0 := A6.cell (j := 0) (by simp)
            have b1 := A6.cell (j := 1) (by simp)
            have b2 := A6.cell (j := 2) (by simp)
            have g0 := R6.frozen 0
            have g1 := R6.frozen 1
            have k0 := A6.frozen 0
            have k1 := A6.frozen 1
            have k2 := A6.frozen 2
            simp only [List.getElem_cons_zero, List.getElem_cons_succ] at r0 r1 b0 b1 b2))
      all_goals go_wp2
      all_goals refine bodyPost_ret (v := doGood (.slice rA q.1.rows.length rc) (.slice (some ⟨S, 0, none⟩) q.1.ss.length q.1.ss.length) q.2 q.1.ss[i].st) (by simp [results, Tryd.results10, go_sem, r0, r1, b0, b1, b2, doGood]) rfl ?_
      all_goals
        have hk1 : ∀ b, b ≠ w.heap.size + 1 + 1 → ((w6.setCell ⟨w.heap.size + 1 + 1, 0, none⟩ (.slice rA q.1.rows.length rc)).setCell ⟨w.heap.size + 1 + 1, 1, none⟩ (.slice (some ⟨S, 0, none⟩) q.1.ss.length q.1.ss.length)).heap[b]? = w6.heap[b]? := fun b hb => by rw [Below.heap_setCell _ _ _ _ hb, Below.heap_setCell _ _ _ _ hb]
        have e1 := (HE5.out.below kb).offN (R := w.heap.size + 1 + 1) (by omega) hSR (noTwo_world R6) (by simp [World.setCell]) hk1
        have A7 := (A6.other (p := ⟨w.heap.size + 1 + 1, 0, none⟩) (by show w.heap.size + 1 + 1 ≠ _; omega) (.slice rA q.1.rows.length rc)).other (p := ⟨w.heap.size + 1 + 1, 1, none⟩) (by show w.heap.size + 1 + 1 ≠ _; omega) (.slice (some ⟨S, 0, none⟩) q.1.ss.length q.1.ss.length)
        have hk2 : ∀ (x y z : Value) b, b ≠ w.heap.size + 1 + 1 + 1 → (((((w6.setCell ⟨w.heap.size + 1 + 1, 0, none⟩ (.slice rA q.1.rows.length rc)).setCell ⟨w.heap.size + 1 + 1, 1, none⟩ (.slice (some ⟨S, 0, none⟩) q.1.ss.length q.1.ss.length)).setCell ⟨w.heap.size + 1 + 1 + 1, 0, none⟩ x).setCell ⟨w.heap.size + 1 + 1 + 1, 1, none⟩ y).setCell ⟨w.heap.size + 1 + 1 + 1, 2, none⟩ z).heap[b]? = ((w6.setCell ⟨w.heap.size + 1 + 1, 0, none⟩ (.slice rA q.1.rows.length rc)).setCell ⟨w.heap.size + 1 + 1, 1, none⟩ (.slice (some ⟨S, 0, none⟩) q.1.ss.length q.1.ss.length)).heap[b]? := fun x y z b hb => by rw [Below.heap_setCell _ _ _ _ hb, Below.heap_setCell _ _ _ _ hb, Below.heap_setCell _ _ _ _ hb]
        have e2 := e1.offN (R := w.heap.size + 1 + 1 + 1) (w' := ((((w6.setCell ⟨w.heap.size + 1 + 1, 0, none⟩ (.slice rA q.1.rows.length rc)).setCell ⟨w.heap.size + 1 + 1, 1, none⟩ (.slice (some ⟨S, 0, none⟩) q.1.ss.length q.1.ss.length)).setCell ⟨w.heap.size + 1 + 1 + 1, 0, none⟩ (.int .i64 q.2.kind)).setCell ⟨w.heap.size + 1 + 1 + 1, 1, none⟩ (.string q.2.text)).setCell ⟨w.heap.size + 1 + 1 + 1, 2, none⟩ (.int .i64 q.1.ss[i].st)) (by omega) (fun e => hRS3 e.symm) (noTwo_answer A7) (by simp [World.setCell]) (hk2 _ _ _)
        have bf := (((((HB5.out.trans (kb.mono (by omega))).setCell (p := ⟨w.heap.size + 1 + 1, 0, none⟩) (by show w.heap.size ≤ w.heap.size + 1 + 1; omega) (.slice rA q.1.rows.length rc)).setCell (p := ⟨w.heap.size + 1 + 1, 1, none⟩) (by show w.heap.size ≤ w.heap.size + 1 + 1; omega) (.slice (some ⟨S, 0, none⟩) q.1.ss.length q.1.ss.length)).setCell (p := ⟨w.heap.size + 1 + 1 + 1, 0, none⟩) (by show w.heap.size ≤ w.heap.size + 1 + 1 + 1; omega) (.int .i64 q.2.kind)).setCell (p := ⟨w.heap.size + 1 + 1 + 1, 1, none⟩) (by show w.heap.size ≤ w.heap.size + 1 + 1 + 1; omega) (.string q.2.text)).setCell (p := ⟨w.heap.size + 1 + 1 + 1, 2, none⟩) (by show w.heap.size ≤ w.heap.size + 1 + 1 + 1; omega) (.int .i64 q.1.ss[i].st)
        rw [HDM.out]
        refine ⟨.slice rA q.1.rows.length rc, .slice (some ⟨S, 0, none⟩) q.1.ss.length q.1.ss.length, (by rw [getD_at hqi]), ?_, bf⟩
        exact e2.wldP

/-- Do, at once; what it returns lies in new blocks -/
theorem do_new (r s : Value) (W : Wd) (i : Nat) (k : Int) (key val : ByteArray) (w : World) (hW : Wld w w.heap.size r s W) (hWo : Words w) (hok : WorldOk W) (hi : i < W.ss.length) (hc : checkE k key val = 0) :
    Calls Tryd.prog 10 #[.agg #[r, s], .int .i64 i, .agg #[.int .i64 k, .string key, .string val]] w fun e w' => ∃ r' s', e = .returned (doGood r' s' (doM W i k key val).2 ((doM W i k key val).1.at i).st) ∧ WldP w' (fun b => w.heap.size ≤ b) r' s' (doM W i k key val).1 ∧ Below w.heap.size w w' := by
  have g := good_of hc
  exact do_lo r s W i k key val w hW hWo (by have := g.key8; unfold maxLen; omega) (by have := g.v60; unfold maxLen; omega) (by
    unfold doE
    rw [if_neg (by rw [worldB_iff.2 hok]; simp), if_neg (by omega)]; exact hc)
end Go.Proofs.YtpbaobmegomfpabDoor

/-
  From an argument's reading to what lies in memory: lists of pairs, sessions, worlds.
-/
namespace Go.Proofs.YtpbaobmegomfpabDoor
open Go.RowKit Go.ChangeShapes Go.WideShapes Go.Deep Go.Joins
set_option linter.unusedVariables false
set_option maxRecDepth 100000

theorem weightsAll_mem {H : Type} {P : Program} {e : TypeId} {d : DataW H} {n : Nat} : ∀ {l : List (DataW H)}, d ∈ l → n ∈ d.weights P e → n ∈ DataW.weightsAll P e l
  | x :: l, hd, hn => by
    simp only [DataW.weightsAll, List.mem_append]
    rcases List.mem_cons.1 hd with rfl | h
    · exact .inl hn
    · exact .inr (weightsAll_mem h hn)
theorem spot_none {w : World} {a : Addr} {u : Value} (h : w.cell? a = some u) : a = ⟨a.block, a.off, none⟩ := by
  obtain ⟨b, o, s⟩ := a
  cases s with
  | none => rfl
  | some x => unfold World.cell? at h; simp at h; split at h <;> simp at h

section
variable {H : Type} {enc : TypeId × Value → H} {w : World} {base : Nat} {spare : Nat → Bool} {held : Bool}
theorem open_lst {fuel : Nat} {v : Value} {x : DataW H × List MemPlace} (h : DataW.trod enc Tryd.prog w base spare held fuel 22 [v] = some x)
    (hz : ∀ n ∈ x.1.weights Tryd.prog 22, n ≤ reachBytes) : ∃ l : PL, Lst w w.heap.size v l := by
  rcases open_slice_pairs Tryd.underlying22 Tryd.underlying50 (show Tryd.prog.cellsOf 50 = 2 by kernel_rfl) rfl rfl (show Tryd.prog.cellsOf 9 = 1 by kernel_rfl) (show Tryd.prog.cellsOf 9 = 1 by kernel_rfl) h with ⟨hcs, hx⟩ | ⟨a, len, cap, m, n, V0, V1, D0, D1, P0, P1, hcs, hb, hl, hm, hmm, rfl, hi⟩
  · obtain rfl : v = .slice none 0 0 := by simpa using hcs
    exact ⟨[], ⟨none, 0, rfl, Nat.le_refl _⟩, by simp, by simp, fun h => absurd h (by simp), fun n c h => by injection h with _ _ h; exact h.symm⟩
  · obtain rfl : v = .slice (some a) len cap := by simpa using hcs
    have hlm : len ≤ m := by rw [hmm]; split <;> omega
    have each : ∀ i, i < len → ∃ p : ByteArray × ByteArray, w.cell? (a.add (i * 2)) = some (.string p.1) ∧ w.cell? (a.add (i * 2 + 1)) = some (.string p.2) ∧ p.1.size ≤ 140737488351232 ∧ p.2.size ≤ 140737488351232 := by
      intro i hil
      obtain ⟨c0, c1, t0, t1⟩ := hi i (by omega)
      obtain ⟨s0, e0, d0, _⟩ := DataW.trod_string Tryd.underlying9 t0
      obtain ⟨s1, e1, d1, _⟩ := DataW.trod_string Tryd.underlying9 t1
      have e1' : V1 i = .string s1 := by simpa using e1
      have e0' : V0 i = .string s0 := by simpa using e0
      simp only [Prod.mk.injEq] at d0 d1
      have hw : ∀ n, n = s0.data.toList.length ∨ n = s1.data.toList.length → n ≤ reachBytes := fun n hn => hz n (by
        simp only [DataW.weights, Tryd.underlying22, List.mem_cons, List.mem_append]
        refine .inr (.inl (weightsAll_mem (d := .agg [D0 i, D1 i]) (List.mem_map.2 ⟨i, List.mem_range.2 hil, rfl⟩) ?_))
        rw [d0.1, d1.1]
        simp only [DataW.weights, Tryd.underlying50, List.map_cons, List.map_nil, DataW.weightsEach, List.mem_append, List.mem_singleton, List.not_mem_nil, or_false]
        exact hn)
      have z0 := hw _ (.inl rfl)
      have z1 := hw _ (.inr rfl)
      exact ⟨(s0, s1), by rw [c0, e0'], by rw [c1, e1'], by simpa [reachBytes] using z0, by simpa [reachBytes] using z1⟩
    obtain ⟨f, hf⟩ := choose_lt each
    have hby := hz ((len + (m - len)) * 32) (by
      simp only [DataW.weights, Tryd.underlying22, List.mem_cons, List.length_map, List.length_range]
      exact .inl (by rw [show Tryd.prog.bytesOf 50 = 32 by kernel_rfl]))
    have hll : ((List.range len).map f).length = len := by simp
    refine ⟨(List.range len).map f, ⟨some a, cap, by rw [hll], by rw [hll]; exact hl⟩, by rw [hll]; unfold reachBytes at hby; omega, ?_, fun hn => ?_, fun n c h => by cases h⟩
    · intro p hp
      obtain ⟨i, hil, rfl⟩ := List.mem_map.1 hp
      exact ⟨(hf i (List.mem_range.1 hil)).2.2.1, (hf i (List.mem_range.1 hil)).2.2.2⟩
    · rw [hll] at hn
      have h0 := (hf 0 hn).1
      rw [Nat.zero_mul, show a.add 0 = a from rfl] at h0
      have ha := spot_none h0
      refine ⟨a.block, a.off, cap, by rw [hll, ← ha], World.block_lt_of_cell? w a h0, fun i hil => ?_⟩
      rw [hll] at hil
      obtain ⟨g0, g1, _⟩ := hf i hil
      rw [ha, add_plain] at g0 g1
      simp only [List.getElem_map, List.getElem_range]
      exact ⟨g0, g1⟩

theorem sess_cells {n : Nat} {cs : List Value} {x : DataW H × List MemPlace} (h : DataW.trod enc Tryd.prog w base spare held n 46 cs = some x) (hz : ∀ n ∈ x.1.weights Tryd.prog 46, n ≤ reachBytes) :
    ∃ (s : Sess) (v1 v2 v3 v4 : Value), cs = [.int .i64 s.st, v1, v2, v3, v4] ∧ Lst w w.heap.size v1 s.set ∧ Lst w w.heap.size v2 s.prep ∧ Lst w w.heap.size v3 s.sav ∧ Lst w w.heap.size v4 s.wr := by
  obtain ⟨xs, k, _, rfl, hl, hxl, hf⟩ := DataW.trod_struct Tryd.underlying46 h
  rw [show Tryd.prog.cellsOf 46 = 5 by kernel_rfl] at hl
  match xs, hxl, cs, hl with
  | [y0, y1, y2, y3, y4], _, [c0, c1, c2, c3, c4], _ =>
    have ei : Tryd.prog.cellsOf 3 = 1 := by kernel_rfl
    have ep : Tryd.prog.cellsOf 22 = 1 := by kernel_rfl
    have g0 : DataW.trod enc Tryd.prog w base spare held k 3 ((([c0, c1, c2, c3, c4] : List Value).drop 0).take (Tryd.prog.cellsOf 3)) = some y0 := hf 0 _ rfl
    rw [ei] at g0
    have g0 : DataW.trod enc Tryd.prog w base spare held k 3 [c0] = some y0 := g0
    have g1 : DataW.trod enc Tryd.prog w base spare held k 22 ((([c0, c1, c2, c3, c4] : List Value).drop 1).take (Tryd.prog.cellsOf 22)) = some y1 := hf 1 _ rfl
    rw [ep] at g1
    have g1 : DataW.trod enc Tryd.prog w base spare held k 22 [c1] = some y1 := g1
    have g2 : DataW.trod enc Tryd.prog w base spare held k 22 ((([c0, c1, c2, c3, c4] : List Value).drop 2).take (Tryd.prog.cellsOf 22)) = some y2 := hf 2 _ rfl
    rw [ep] at g2
    have g2 : DataW.trod enc Tryd.prog w base spare held k 22 [c2] = some y2 := g2
    have g3 : DataW.trod enc Tryd.prog w base spare held k 22 ((([c0, c1, c2, c3, c4] : List Value).drop 3).take (Tryd.prog.cellsOf 22)) = some y3 := hf 3 _ rfl
    rw [ep] at g3
    have g3 : DataW.trod enc Tryd.prog w base spare held k 22 [c3] = some y3 := g3
    have g4 : DataW.trod enc Tryd.prog w base spare held k 22 ((([c0, c1, c2, c3, c4] : List Value).drop 4).take (Tryd.prog.cellsOf 22)) = some y4 := hf 4 _ rfl
    rw [ep] at g4
    have g4 : DataW.trod enc Tryd.prog w base spare held k 22 [c4] = some y4 := g4
    obtain ⟨st, e0, _, _⟩ := DataW.trod_int Tryd.underlying3 g0
    obtain rfl : c0 = .int .i64 st := by simpa using e0
    have hz' : ∀ n, n ∈ y1.1.weights Tryd.prog 22 ∨ n ∈ y2.1.weights Tryd.prog 22 ∨ n ∈ y3.1.weights Tryd.prog 22 ∨ n ∈ y4.1.weights Tryd.prog 22 → n ≤ reachBytes := fun n hn => hz n (by
      simp only [DataW.weights, Tryd.underlying46, List.map_cons, List.map_nil, DataW.weightsEach, List.mem_append]
      rcases hn with h | h | h | h
      · exact .inr (.inl h)
      · exact .inr (.inr (.inl h))
      · exact .inr (.inr (.inr (.inl h)))
      · exact .inr (.inr (.inr (.inr (.inl h)))))
    obtain ⟨l1, h1⟩ := open_lst g1 (fun n hn => hz' n (.inl hn))
    obtain ⟨l2, h2⟩ := open_lst g2 (fun n hn => hz' n (.inr (.inl hn)))
    obtain ⟨l3, h3⟩ := open_lst g3 (fun n hn => hz' n (.inr (.inr (.inl hn))))
    obtain ⟨l4, h4⟩ := open_lst g4 (fun n hn => hz' n (.inr (.inr (.inr hn))))
    exact ⟨⟨st, l1, l2, l3, l4⟩, _, _, _, _, rfl, h1, h2, h3, h4⟩

theorem open_sss {fuel : Nat} {v : Value} {x : DataW H × List MemPlace} (h : DataW.trod enc Tryd.prog w base spare held fuel 23 [v] = some x)
    (hz : ∀ n ∈ x.1.weights Tryd.prog 23, n ≤ reachBytes) : ∃ ss : List Sess, Sss w w.heap.size v ss := by
  rcases open_slice Tryd.underlying23 h with ⟨hcs, hx⟩ | ⟨a, len, cap, m, n, D, Pl, hcs, hb, hl, hm, hmm, rfl, hi⟩
  · obtain rfl : v = .slice none 0 0 := by simpa using hcs
    exact ⟨[], ⟨none, 0, rfl, Nat.le_refl _⟩, by simp, fun h => absurd h (by simp)⟩
  · obtain rfl : v = .slice (some a) len cap := by simpa using hcs
    have hlm : len ≤ m := by rw [hmm]; split <;> omega
    have each : ∀ i, i < len → ∃ s : Sess, ∃ v1 v2 v3 v4, (∀ j, j < 5 → w.cell? (a.add (i * 5 + j)) = [Value.int .i64 s.st, v1, v2, v3, v4][j]?) ∧ Lst w w.heap.size v1 s.set ∧ Lst w w.heap.size v2 s.prep ∧ Lst w w.heap.size v3 s.sav ∧ Lst w w.heap.size v4 s.wr := by
      intro i hil
      obtain ⟨cs, hc, ht⟩ := hi i (by omega)
      rw [show Tryd.prog.cellsOf 46 = 5 by kernel_rfl] at hc
      obtain ⟨_, _, hcell⟩ := World.cells?_some hc
      obtain ⟨s, v1, v2, v3, v4, rfl, h1, h2, h3, h4⟩ := sess_cells ht (fun n hn => hz n (by
        simp only [DataW.weights, Tryd.underlying23, List.mem_cons, List.mem_append]
        exact .inr (.inl (weightsAll_mem (d := D i) (List.mem_map.2 ⟨i, List.mem_range.2 hil, rfl⟩) hn))))
      refine ⟨s, v1, v2, v3, v4, fun j hj => ?_, h1, h2, h3, h4⟩
      have := hcell j hj
      rwa [Go.Deep.add_add] at this
    have : Inhabited Sess := ⟨⟨0, [], [], [], []⟩⟩
    obtain ⟨f, hf⟩ := choose_lt each
    have hby := hz ((len + (m - len)) * 104) (by
      simp only [DataW.weights, Tryd.underlying23, List.mem_cons, List.length_map, List.length_range]
      exact .inl (by rw [show Tryd.prog.bytesOf 46 = 104 by kernel_rfl]))
    have hll : ((List.range len).map f).length = len := by simp
    refine ⟨(List.range len).map f, ⟨some a, cap, by rw [hll], by rw [hll]; exact hl⟩, by rw [hll]; unfold reachBytes at hby; omega, fun hn => ?_⟩
    rw [hll] at hn
    obtain ⟨_, _, _, _, h0, _⟩ := hf 0 hn
    have h00 := h0 0 (by omega)
    rw [show a.add (0 * 5 + 0) = a from rfl] at h00
    have ha := spot_none (h00.trans rfl)
    refine ⟨a.block, a.off, cap, by rw [hll, ← ha], World.block_lt_of_cell? w a (h00.trans rfl), fun i hil => ?_⟩
    rw [hll] at hil
    obtain ⟨v1, v2, v3, v4, hc, h1, h2, h3, h4⟩ := hf i hil
    rw [ha] at hc
    simp only [add_plain] at hc
    simp only [List.getElem_map, List.getElem_range]
    have q0 := hc 0 (by omega)
    have q1 := hc 1 (by omega)
    have q2 := hc 2 (by omega)
    have q3 := hc 3 (by omega)
    have q4 := hc 4 (by omega)
    exact ⟨v1, v2, v3, v4, q0, q1, q2, q3, q4, h1, h2, h3, h4⟩
end

section
variable {H : Type} {enc : TypeId × Value → H} {w : World} {base : Nat} {spare : Nat → Bool} {held : Bool}
theorem open_world {r : Reach} {b0 : Nat} {v : Value} {d : DataW H} {p : List MemPlace} (hv : Value.okWide Tryd.prog w r b0 25 v) (h : DataW.Trod enc Tryd.prog w base spare held 25 v d p)
    (hz : ∀ n ∈ d.weights Tryd.prog 25, n ≤ reachBytes) : ∃ (a b : Value) (W : Wd), v = .agg #[a, b] ∧ Wld w w.heap.size a b W := by
  obtain ⟨c0, c1, y0, y1, m, rfl, rfl, rfl, h0, h1⟩ := open_agg2 Tryd.underlying25 (by kernel_rfl) (show Tryd.prog.cellsOf 25 = 2 by kernel_rfl) hv h
  have hz' : ∀ n, n ∈ y0.1.weights Tryd.prog 22 ∨ n ∈ y1.1.weights Tryd.prog 23 → n ≤ reachBytes := fun n hn => hz n (by
    simp only [DataW.weights, Tryd.underlying25, List.map_cons, List.map_nil, DataW.weightsEach, List.mem_append]
    rcases hn with h | h
    · exact .inl h
    · exact .inr (.inl h))
  obtain ⟨l, hl⟩ := open_lst h0 (fun n hn => hz' n (.inl hn))
  obtain ⟨ss, hs⟩ := open_sss h1 (fun n hn => hz' n (.inr hn))
  exact ⟨c0, c1, ⟨l, ss⟩, rfl, hl, hs⟩
end
end Go.Proofs.YtpbaobmegomfpabDoor

/-
  Plain mathematics: answers as texts.
-/
namespace Go.Proofs.YtpbaobmegomfpabDoor
open Go.RowKit

def leadL : Nat → List UInt8
  | 1 => [111, 107]
  | 2 => [61]
  | 3 => [110, 111, 110, 101]
  | 4 => [33]
  | _ => []
def leadAt (k : Nat) : ByteArray := ⟨(leadL k).toArray⟩
def markAt : Nat → ByteArray
  | 0 => ⟨#[73]⟩
  | 1 => ⟨#[84]⟩
  | _ => ⟨#[70]⟩
/-- the text of an answer -/
def tellT (k st : Nat) (x : ByteArray) : ByteArray := (markAt st ++ leadAt k) ++ x
/-- what is wrong with an answer -/
def tellE (k : Int) (x : ByteArray) (st : Int) : Int :=
  if k < 1 ∨ 4 < k ∨ st < 0 ∨ 2 < st then 3 else if (decide (k = 2 ∨ k = 4) == x.toList.isEmpty) = true ∨ 60 < x.size then 4 else 0
theorem tellE_kind {k st : Int} {x : ByteArray} (h : k < 1 ∨ 4 < k ∨ st < 0 ∨ 2 < st) : tellE k x st = 3 := by unfold tellE; rw [if_pos h]
theorem tellE_form {k st : Int} {x : ByteArray} (h : ¬ (k < 1 ∨ 4 < k ∨ st < 0 ∨ 2 < st)) (h2 : (decide (k = 2 ∨ k = 4) == x.toList.isEmpty) = true ∨ 60 < x.size) : tellE k x st = 4 := by unfold tellE; rw [if_neg h, if_pos h2]
theorem tellE_ok {k st : Int} {x : ByteArray} (h : ¬ (k < 1 ∨ 4 < k ∨ st < 0 ∨ 2 < st)) (h2 : ¬ ((decide (k = 2 ∨ k = 4) == x.toList.isEmpty) = true ∨ 60 < x.size)) : tellE k x st = 0 := by unfold tellE; rw [if_neg h, if_neg h2]
theorem app_empty {a x : ByteArray} (h : x.toList.isEmpty = true) : a ++ x = a := by
  rw [Lib.toList_data, List.isEmpty_iff] at h
  apply ba_ext
  rw [ByteArray.data_append, Array.toList_append, h, List.append_nil]

end Go.Proofs.YtpbaobmegomfpabDoor

/-
  Plain mathematics: clients that share servers (P3.2 to P3.4), over whatever serves them.
-/
namespace Go.Proofs.YtpbaobmegomfpabDoor
open Go.RowKit
set_option linter.unusedVariables false

/-- a request; one of kind 0 is not understood -/
structure Req where
  k : Int
  key : ByteArray
  val : ByteArray
def Req.none_ : Req := ⟨0, ⟨#[]⟩, ⟨#[]⟩⟩
/-- what may wait -/
def Req.fine (r : Req) : Prop := r = Req.none_ ∨ checkE r.k r.key r.val = 0
structure Deed where
  c : Nat
  r : Req
  a : Ans
  st : Int
/-- a client -/
structure Cl where
  bytes : ByteArray
  wait : List Req
  srv : Option Nat
def Cl.new : Cl := ⟨⟨#[]⟩, [], none⟩
/-- what serves: a statement of a client that has a server, the state of its session, a server handed out, one given back, a client that goes -/
structure Ops (E : Type) where
  exec : E → Nat → Nat → Req → E × Ans × Int
  state : E → Nat → Option Nat → Int
  grant : E → Nat → Nat → E
  free : E → Nat → Nat → E
  leave : E → Nat → Option Nat → E
structure Mach (E : Type) where
  e : E
  cl : List Cl
  busy : List Bool
  line : List Nat
  sent : List ByteArray
  deeds : List Deed

def tUnder : ByteArray := ⟨#[110, 111, 116, 32, 117, 110, 100, 101, 114, 115, 116, 111, 111, 100]⟩
def tMode : ByteArray := ⟨#[110, 111, 116, 32, 105, 110, 32, 116, 104, 105, 115, 32, 109, 111, 100, 101]⟩
/-- why a request needs no server; empty: it needs one -/
def refuse (mode : Int) (r : Req) : ByteArray := if r.k = 0 then tUnder else if r.k = 1 ∧ mode = 3 then tMode else ⟨#[]⟩
def refB (mode : Int) (r : Req) : Bool := decide (r.k = 0 ∨ (r.k = 1 ∧ mode = 3))
def readyB (mode : Int) (x : Cl) : Bool := match x.wait with
  | [] => false
  | r :: _ => x.srv.isSome || refB mode r

section
variable {E : Type} (o : Ops E) (mode : Int)
def Mach.get (m : Mach E) (c : Nat) : Cl := m.cl.getD c Cl.new
def Mach.set (m : Mach E) (c : Nat) (x : Cl) : Mach E := { m with cl := m.cl.set c x }
/-- a message with an answer -/
def ansM (a : Ans) (st : Int) : ByteArray := msg 82 (tellT a.kind.toNat st.toNat a.text)
def Mach.tell (m : Mach E) (c : Nat) (a : Ans) (st : Int) : Mach E := { m with sent := m.sent.set c (m.sent.getD c ⟨#[]⟩ ++ ansM a st) }
def Mach.release (m : Mach E) (c s : Nat) : Mach E := { m with e := o.free m.e c s, busy := m.busy.set s false, cl := m.cl.set c { m.get c with srv := none } }
/-- the first request of a client -/
def Mach.proc (m : Mach E) (c : Nat) : Mach E := match (m.get c).wait with
  | [] => m
  | r :: rest =>
    if refB mode r then (m.set c { m.get c with wait := rest }).tell c ⟨4, refuse mode r⟩ (o.state m.e c (m.get c).srv)
    else
      let x := o.exec m.e c ((m.get c).srv.getD 0) r
      let m2 := Mach.tell { m.set c { m.get c with wait := rest } with e := x.1, deeds := m.deeds ++ [⟨c, r, x.2.1, x.2.2⟩] } c x.2.1 x.2.2
      if mode ≠ 1 ∧ x.2.2 = 0 then m2.release o c ((m.get c).srv.getD 0) else m2
/-- who has requests waits in line -/
def enqL (m : Mach E) (l : List Nat) (c : Nat) : List Nat := if (m.get c).wait ≠ [] ∧ ¬ c ∈ l then l ++ [c] else l
def Mach.enq (m : Mach E) : Mach E := { m with line := (List.range 6).foldl (enqL m) m.line }
/-- the first in line gets the first free server -/
def Mach.assign (m : Mach E) : Bool × Mach E := match m.line with
  | [] => (false, m)
  | c :: l => if m.busy.idxOf false < m.busy.length then (true, { m with line := l, busy := m.busy.set (m.busy.idxOf false) true, cl := m.cl.set c { m.get c with srv := some (m.busy.idxOf false) }, e := o.grant m.e c (m.busy.idxOf false) }) else (false, m)
def Mach.firstR (m : Mach E) : Option Nat := (List.range 6).find? (fun c => readyB mode (m.get c))
def Mach.step (m : Mach E) : Bool × Mach E := match m.firstR mode with
  | some c => (true, m.proc o mode c)
  | none => m.enq.assign o
def Mach.iter : Nat → Mach E → Mach E
  | 0, m => m
  | n + 1, m => if (m.step o mode).1 then Mach.iter n (m.step o mode).2 else (m.step o mode).2
def waits (l : List Cl) : Nat := (l.map fun x => x.wait.length).sum
def bare (l : List Cl) : Nat := l.countP fun x => x.srv.isNone
def Mach.mu (m : Mach E) : Nat := 2 * waits m.cl + bare m.cl
/-- P3.3: everything possible -/
def Mach.all (m : Mach E) : Mach E := m.iter o mode (m.mu + 1)
/-- P3.4 -/
def Mach.leave (m : Mach E) (c : Nat) : Mach E :=
  { m with e := o.leave m.e c (m.get c).srv, busy := match (m.get c).srv with
      | some s => m.busy.set s false
      | none => m.busy, line := m.line.filter (fun n => n != c), cl := m.cl.set c Cl.new }
/-- the first message of bytes: its kind, its text, its length -/
def pull (b : ByteArray) : Option (UInt8 × ByteArray × Nat) := if h : 2 ≤ b.size then (if 2 + b[1].toNat ≤ b.size then some (b[0], b.extract 2 (2 + b[1].toNat), 2 + b[1].toNat) else none) else none
/-- what a message asks -/
def reqOf (k : UInt8) (t : ByteArray) : Req := if k = 81 ∧ readE t = 0 then ⟨kindN (cutA t), cutA (cutB t), cutB (cutB t)⟩ else Req.none_
/-- what a client has sent becomes requests, up to a farewell -/
def Mach.feed : Nat → Mach E → Nat → Mach E
  | 0, m, _ => m
  | n + 1, m, c => match pull (m.get c).bytes with
    | none => m
    | some (k, t, j) => if k = 88 then (m.all o mode).leave o c else Mach.feed n (m.set c { m.get c with bytes := (m.get c).bytes.extract j (m.get c).bytes.size, wait := (m.get c).wait ++ [reqOf k t] }) c
def Mach.deliver (m : Mach E) (c : Nat) (data : ByteArray) : Mach E := (m.set c { m.get c with bytes := (m.get c).bytes ++ data }).feed o mode ((m.get c).bytes.size + data.size + 1) c
structure Act where
  kind : Int
  c : Int
  data : ByteArray
def Mach.act (m : Mach E) (a : Act) : Mach E := (if a.kind = 1 then m.deliver o mode a.c.toNat a.data else m.leave o a.c.toNat).all o mode
/-- P3.2 -/
def Mach.run (m : Mach E) (l : List Act) : Mach E := l.foldl (fun m a => m.act o mode a) m
def Mach.start (e : E) (n : Nat) : Mach E := ⟨e, List.replicate 6 Cl.new, List.replicate n false, [], List.replicate 6 ⟨#[]⟩, []⟩
end

/-- the errors of Run -/
def setupE (mode servers : Int) : Int := if mode < 1 ∨ 3 < mode then 3 else if servers < 1 ∨ 4 < servers then 2 else 0
def actE (a : Act) : Int := if ¬ (a.kind = 1 ∨ a.kind = 2) then 3 else if a.c < 0 ∨ 6 ≤ a.c then 2 else if 1000 < a.data.size then 1 else 0
def actsE : List Act → Int
  | [] => 0
  | a :: l => if actE a ≠ 0 then actE a else actsE l
def runE (mode servers : Int) (l : List Act) : Int := if setupE mode servers ≠ 0 then setupE mode servers else if 300 < l.length then 1 else actsE l

/-- servers that clients share: the world, and the lists of each client while no server has them -/
structure PE where
  w : Wd
  kept : List (PL × PL)
def PE.of (e : PE) (c : Nat) : PL × PL := e.kept.getD c ([], [])
/-- the pairs of a list that another does not have -/
def pairB (p q : ByteArray × ByteArray) : Bool := eqB p.1 q.1 && eqB p.2 q.2
def without (l o : PL) : PL := l.filter fun q => !o.any fun p => pairB p q
def doW (w : Wd) (s : Nat) (k : Int) (l : PL) : Wd := l.foldl (fun w q => (doM w s k q.1 q.2).1) w
def restoreW (w : Wd) (s : Nat) (p : PL × PL) : Wd :=
  let w1 := if (without (w.at s).set p.1).length > 0 ∨ (without (w.at s).prep p.2).length > 0 then (doM w s 4 ⟨#[]⟩ ⟨#[]⟩).1 else w
  doW (doW w1 s 9 (without p.1 (w1.at s).set)) s 11 (without p.2 (w1.at s).prep)
def PE.free (e : PE) (c s : Nat) : PE := ⟨e.w, e.kept.set c ((e.w.at s).set, (e.w.at s).prep)⟩
def PE.state (e : PE) (srv : Option Nat) : Int := match srv with
  | none => 0
  | some s => (e.w.at s).st
def poolO : Ops PE where
  exec e c s r := let x := doM e.w s r.k r.key r.val; (⟨x.1, e.kept⟩, x.2, (x.1.at s).st)
  state e _ srv := e.state srv
  grant e c s := ⟨restoreW e.w s (e.of c), e.kept⟩
  free e c s := e.free c s
  leave e c srv := match srv with
    | none => ⟨e.w, e.kept.set c ([], [])⟩
    | some s => ⟨if (e.w.at s).st ≠ 0 then (doM e.w s 3 ⟨#[]⟩ ⟨#[]⟩).1 else e.w, e.kept.set c ([], [])⟩
/-- each client has a session of its own -/
def Sess.zero : Sess := ⟨0, [], [], [], []⟩
def houseO : Ops Wd where
  exec e c _ r := let x := doM e c r.k r.key r.val; (x.1, x.2, (x.1.at c).st)
  state e c _ := (e.at c).st
  grant e _ _ := e
  free e _ _ := e
  leave e c _ := e.put c Sess.zero
def poolStart (n : Nat) : PE := ⟨⟨[], List.replicate n Sess.zero⟩, List.replicate 6 ([], [])⟩
def houseStart : Wd := ⟨[], List.replicate 6 Sess.zero⟩

end Go.Proofs.YtpbaobmegomfpabDoor

/-
  Plain mathematics: everything possible comes to an end; what always holds of clients and servers.
-/
namespace Go.Proofs.YtpbaobmegomfpabDoor
open Go.RowKit
set_option linter.unusedVariables false

theorem waits_set : ∀ {l : List Cl} {c : Nat} {x : Cl} (h : c < l.length), waits (l.set c x) + l[c].wait.length = waits l + x.wait.length
  | a :: l, 0, x, _ => by simp [waits]; omega
  | a :: l, c + 1, x, h => by
    have := waits_set (l := l) (c := c) (x := x) (by simpa using h)
    simp only [waits, List.set_cons_succ, List.map_cons, List.sum_cons, List.getElem_cons_succ] at this ⊢
    omega
theorem bare_set : ∀ {l : List Cl} {c : Nat} {x : Cl} (h : c < l.length), bare (l.set c x) + l[c].srv.isNone.toNat = bare l + x.srv.isNone.toNat
  | a :: l, 0, x, _ => by
    simp only [bare, List.set_cons_zero, List.countP_cons, List.getElem_cons_zero]
    cases a.srv.isNone <;> cases x.srv.isNone <;> simp
  | a :: l, c + 1, x, h => by
    have := bare_set (l := l) (c := c) (x := x) (by simpa using h)
    simp only [bare, List.set_cons_succ, List.countP_cons, List.getElem_cons_succ] at this ⊢
    omega

section
variable {E : Type} {o : Ops E} {mode : Int} {m : Mach E}
theorem get_lt {c : Nat} (h : c < m.cl.length) : m.get c = m.cl[c] := by
  unfold Mach.get; rw [List.getD_eq_getElem?_getD, List.getElem?_eq_getElem h]; rfl
theorem get_ge {c : Nat} (h : m.cl.length ≤ c) : m.get c = Cl.new := by
  unfold Mach.get; rw [List.getD_eq_getElem?_getD, List.getElem?_eq_none h]; rfl
theorem getD_set {α : Type} (l : List α) (c d : Nat) (x z : α) : (l.set c x).getD d z = if c = d ∧ c < l.length then x else l.getD d z := by
  rw [List.getD_eq_getElem?_getD, List.getD_eq_getElem?_getD, List.getElem?_set]
  by_cases h : c = d
  · subst h
    by_cases h2 : c < l.length
    · simp [h2]
    · simp [h2]
  · simp [h]
theorem get_set {c d : Nat} {x : Cl} (h : c < m.cl.length) : (m.set c x).get d = if c = d then x else m.get d := by
  unfold Mach.get Mach.set; simp only; rw [getD_set]; by_cases e : c = d <;> simp [e, h]; intro hh; omega
theorem get_cl {c d : Nat} {x : Cl} (h : c < m.cl.length) : (m.cl.set c x).getD d Cl.new = if c = d then x else m.get d := get_set h

/-- what always holds -/
structure MOk (mode : Int) (m : Mach E) : Prop where
  n6 : m.cl.length = 6
  s6 : m.sent.length = 6
  line : ∀ c ∈ m.line, c < 6 ∧ (m.get c).srv = none ∧ (m.get c).wait ≠ [] ∧ readyB mode (m.get c) = false
  nodup : m.line.Nodup
  fine : ∀ c r, r ∈ (m.get c).wait → r.fine
  srv : ∀ c s, (m.get c).srv = some s → m.busy[s]? = some true
  inj : ∀ c d s, (m.get c).srv = some s → (m.get d).srv = some s → c = d
  own : ∀ s, m.busy[s]? = some true → ∃ c, (m.get c).srv = some s
theorem srv_lt {c s : Nat} (h : (m.get c).srv = some s) : c < m.cl.length := by
  rcases Nat.lt_or_ge c m.cl.length with h' | h'
  · exact h'
  · rw [get_ge h'] at h; cases h
theorem wait_lt {c : Nat} (h : (m.get c).wait ≠ []) : c < m.cl.length := by
  rcases Nat.lt_or_ge c m.cl.length with h' | h'
  · exact h'
  · rw [get_ge h'] at h; exact absurd rfl h
theorem ready_wait {x : Cl} (h : readyB mode x = true) : ∃ r l, x.wait = r :: l ∧ (x.srv.isSome || refB mode r) = true := by
  unfold readyB at h
  cases hx : x.wait with
  | nil => rw [hx] at h; cases h
  | cons r l => rw [hx] at h; exact ⟨r, l, rfl, h⟩
theorem first_some {c : Nat} (h : m.firstR mode = some c) : c < 6 ∧ readyB mode (m.get c) = true := by
  unfold Mach.firstR at h
  have h2 := List.find?_some (p := fun c => readyB mode (m.get c)) h
  exact ⟨List.mem_range.1 (List.mem_of_find?_eq_some h), h2⟩
theorem first_none (h : m.firstR mode = none) {c : Nat} (hc : c < 6) : readyB mode (m.get c) = false := by
  unfold Mach.firstR at h
  have := List.find?_eq_none.1 h c (List.mem_range.2 hc)
  simpa using this

/-- one client has turned, with the server that it had or with none -/
theorem MOk.turn (h : MOk mode m) {c : Nat} (hc : c < 6) {x : Cl} (hf : ∀ r ∈ x.wait, r.fine) (hs : x.srv = (m.get c).srv) (hl : c ∈ m.line → x.wait ≠ [] ∧ readyB mode x = false) : MOk mode (m.set c x) := by
  have hc' : c < m.cl.length := by rw [h.n6]; exact hc
  have hsrv : ∀ d, ((m.set c x).get d).srv = (m.get d).srv := fun d => by
    rw [get_set hc']
    by_cases e : c = d
    · subst e; rw [if_pos rfl]; exact hs
    · rw [if_neg e]
  refine ⟨by simp [Mach.set, h.n6], h.s6, fun d hd => ?_, h.nodup, fun d r hr => ?_, fun d s hd => ?_, fun d d' s h1 h2 => ?_, fun s hb => ?_⟩
  · obtain ⟨h1, h2, h3, h4⟩ := h.line d hd
    refine ⟨h1, (hsrv d).trans h2, ?_⟩
    rw [get_set hc']
    by_cases e : c = d
    · subst e; rw [if_pos rfl]; exact hl hd
    · rw [if_neg e]; exact ⟨h3, h4⟩
  · rw [get_set hc'] at hr
    by_cases e : c = d
    · rw [if_pos e] at hr; exact hf r hr
    · rw [if_neg e] at hr; exact h.fine d r hr
  · rw [hsrv] at hd; exact h.srv d s hd
  · rw [hsrv] at h1 h2; exact h.inj d d' s h1 h2
  · obtain ⟨d, hd⟩ := h.own s hb
    exact ⟨d, (hsrv d).trans hd⟩
/-- only what serves, what was sent and what was done has turned -/
theorem MOk.same (h : MOk mode m) {m' : Mach E} (h1 : m'.cl = m.cl) (h2 : m'.busy = m.busy) (h3 : m'.line = m.line) (h4 : m'.sent.length = 6) : MOk mode m' := by
  have hg : ∀ c, m'.get c = m.get c := fun c => by unfold Mach.get; rw [h1]
  exact ⟨by rw [h1]; exact h.n6, h4, fun c hc => by rw [h3] at hc; rw [hg]; exact h.line c hc, by rw [h3]; exact h.nodup, fun c r hr => by rw [hg] at hr; exact h.fine c r hr,
    fun c s hs => by rw [hg] at hs; rw [h2]; exact h.srv c s hs, fun c d s a b => by rw [hg] at a b; exact h.inj c d s a b, fun s hs => by rw [h2] at hs; obtain ⟨c, hc⟩ := h.own s hs; exact ⟨c, by rw [hg]; exact hc⟩⟩
theorem MOk.tell (h : MOk mode m) (c : Nat) (a : Ans) (st : Int) : MOk mode (m.tell c a st) := h.same rfl rfl rfl (by simp [Mach.tell, h.s6])
theorem MOk.release (h : MOk mode m) {c s : Nat} (hs : (m.get c).srv = some s) : MOk mode (m.release o c s) := by
  have hc' := srv_lt hs
  have hc : c < 6 := by rw [h.n6] at hc'; exact hc'
  have hg : ∀ d, (m.release o c s).get d = if c = d then { m.get c with srv := none } else m.get d := fun d => get_set (m := m) hc'
  have hn : c ∉ m.line := fun hl => by have := (h.line c hl).2.1; rw [hs] at this; cases this
  refine ⟨by simp [Mach.release, h.n6], h.s6, fun d hd => ?_, h.nodup, fun d r hr => ?_, fun d s' hd => ?_, fun d d' s' h1 h2 => ?_, fun s' hb => ?_⟩
  · have e : c ≠ d := fun e => hn (by rw [e]; exact hd)
    rw [hg, if_neg e]; exact h.line d hd
  · rw [hg] at hr
    by_cases e : c = d
    · rw [if_pos e] at hr; exact h.fine c r hr
    · rw [if_neg e] at hr; exact h.fine d r hr
  · rw [hg] at hd
    by_cases e : c = d
    · rw [if_pos e] at hd; cases hd
    · rw [if_neg e] at hd
      have hne : s ≠ s' := fun e' => e (h.inj c d s hs (by rw [e']; exact hd))
      show (m.busy.set s false)[s']? = _
      rw [List.getElem?_set_ne hne]; exact h.srv d s' hd
  · rw [hg] at h1 h2
    by_cases e : c = d
    · rw [if_pos e] at h1; cases h1
    · by_cases e' : c = d'
      · rw [if_pos e'] at h2; cases h2
      · rw [if_neg e] at h1; rw [if_neg e'] at h2; exact h.inj d d' s' h1 h2
  · have hb : (m.busy.set s false)[s']? = some true := hb
    by_cases e : s = s'
    · subst e
      rw [List.getElem?_set_self (List.getElem?_eq_some_iff.1 (h.srv c s hs)).1] at hb; cases hb
    · rw [List.getElem?_set_ne e] at hb
      obtain ⟨d, hd⟩ := h.own s' hb
      refine ⟨d, ?_⟩
      rw [hg, if_neg (fun e' => e (by rw [← e', hs] at hd; injection hd))]; exact hd
theorem release_mu (h : MOk mode m) {c s : Nat} (hs : (m.get c).srv = some s) : (m.release o c s).mu = m.mu + 1 := by
  have hc' := srv_lt hs
  have e := get_lt (m := m) hc'
  have h1 := waits_set (x := { m.get c with srv := none }) hc'
  have h2 := bare_set (x := { m.get c with srv := none }) hc'
  rw [← e] at h1 h2
  rw [hs] at h2
  simp only [Option.isNone_some, Option.isNone_none, Bool.toNat_false, Bool.toNat_true, Nat.add_zero] at h2
  simp only at h1
  unfold Mach.mu Mach.release
  simp only
  omega
theorem proc_line (h : MOk mode m) {c : Nat} (hr : readyB mode (m.get c) = true) : c ∉ m.line := fun hl => by
  have := (h.line c hl).2.2.2; rw [hr] at this; cases this
/-- a request less -/
theorem MOk.proc (h : MOk mode m) {c : Nat} (hc : c < 6) (hr : readyB mode (m.get c) = true) : MOk mode (m.proc o mode c) ∧ (m.proc o mode c).mu < m.mu := by
  have hc' : c < m.cl.length := by rw [h.n6]; exact hc
  have hn := proc_line h hr
  obtain ⟨r, l, hw, hs⟩ := ready_wait hr
  have h1 : MOk mode (m.set c { m.get c with wait := l }) := h.turn hc (fun q hq => h.fine c q (by rw [hw]; exact List.mem_cons_of_mem _ hq)) rfl (fun hl => absurd hl hn)
  have e := get_lt (m := m) hc'
  have q1 := waits_set (x := { m.get c with wait := l }) hc'
  have q2 := bare_set (x := { m.get c with wait := l }) hc'
  rw [← e] at q1 q2
  rw [hw] at q1
  simp only [List.length_cons] at q1 q2
  have q3 : (m.set c { m.get c with wait := l }).mu + 2 = m.mu := by unfold Mach.mu Mach.set; simp only; omega
  unfold Mach.proc
  simp only [hw]
  by_cases hf : refB mode r = true
  · rw [if_pos hf]
    exact ⟨h1.tell _ _ _, by show (m.set c { m.get c with wait := l }).mu < _; omega⟩
  · rw [if_neg hf]
    have hsv : (m.get c).srv.isSome = true := by rw [Bool.or_eq_true] at hs; exact hs.resolve_right hf
    obtain ⟨s, hs⟩ := Option.isSome_iff_exists.1 hsv
    have h2 : MOk mode (Mach.tell { m.set c { m.get c with wait := l } with e := (o.exec m.e c ((m.get c).srv.getD 0) r).1, deeds := m.deeds ++ [⟨c, r, (o.exec m.e c ((m.get c).srv.getD 0) r).2.1, (o.exec m.e c ((m.get c).srv.getD 0) r).2.2⟩] } c (o.exec m.e c ((m.get c).srv.getD 0) r).2.1 (o.exec m.e c ((m.get c).srv.getD 0) r).2.2) :=
      h1.same rfl rfl rfl (by simp [Mach.tell, Mach.set, h.s6])
    split
    · refine ⟨h2.release (by show ((m.set c _).get c).srv = _; rw [get_set hc', if_pos rfl, hs]; rfl), ?_⟩
      rw [release_mu h2 (by show ((m.set c _).get c).srv = _; rw [get_set hc', if_pos rfl, hs]; rfl)]
      show (m.set c { m.get c with wait := l }).mu + 1 < _; omega
    · exact ⟨h2, by show (m.set c { m.get c with wait := l }).mu < _; omega⟩
theorem enqL_mem {l : List Nat} {c d : Nat} : d ∈ enqL m l c ↔ d ∈ l ∨ (d = c ∧ (m.get c).wait ≠ []) := by
  unfold enqL
  by_cases h : (m.get c).wait ≠ [] ∧ ¬ c ∈ l
  · rw [if_pos h]; simp only [List.mem_append, List.mem_singleton]; exact ⟨fun hh => hh.imp_right fun e => ⟨e, h.1⟩, fun hh => hh.imp_right And.left⟩
  · rw [if_neg h]
    refine ⟨.inl, fun hh => ?_⟩
    rcases hh with hh | ⟨rfl, hw⟩
    · exact hh
    · exact Classical.byContradiction fun hn => h ⟨hw, hn⟩
theorem enqL_nodup {l : List Nat} {c : Nat} (h : l.Nodup) : (enqL m l c).Nodup := by
  unfold enqL
  split
  · rename_i hh
    rw [List.nodup_append]
    exact ⟨h, by simp, fun a ha b hb e => by rw [List.mem_singleton] at hb; subst hb; subst e; exact hh.2 ha⟩
  · exact h
theorem enq_mem : ∀ {cs l : List Nat} {d : Nat}, d ∈ cs.foldl (enqL m) l ↔ d ∈ l ∨ (d ∈ cs ∧ (m.get d).wait ≠ [])
  | [], l, d => by simp
  | c :: cs, l, d => by
    rw [List.foldl_cons, enq_mem, enqL_mem]
    constructor
    · rintro ((h | ⟨rfl, h⟩) | ⟨h1, h2⟩)
      · exact .inl h
      · exact .inr ⟨List.mem_cons_self, h⟩
      · exact .inr ⟨List.mem_cons_of_mem _ h1, h2⟩
    · rintro (h | ⟨h1, h2⟩)
      · exact .inl (.inl h)
      · rcases List.mem_cons.1 h1 with rfl | h1
        · exact .inl (.inr ⟨rfl, h2⟩)
        · exact .inr ⟨h1, h2⟩
theorem enq_nodup : ∀ {cs l : List Nat}, l.Nodup → (cs.foldl (enqL m) l).Nodup
  | [], l, h => h
  | c :: cs, l, h => by rw [List.foldl_cons]; exact enq_nodup (enqL_nodup h)
theorem MOk.enq (h : MOk mode m) (hr : m.firstR mode = none) : MOk mode m.enq := by
  refine ⟨h.n6, h.s6, fun d hd => ?_, enq_nodup h.nodup, h.fine, h.srv, h.inj, h.own⟩
  rcases enq_mem.1 hd with hd | ⟨h1, h2⟩
  · exact h.line d hd
  · have h6 := List.mem_range.1 h1
    have hn := first_none hr h6
    refine ⟨h6, ?_, h2, hn⟩
    cases hx : (m.get d).wait with
    | nil => exact absurd hx h2
    | cons r l =>
      unfold readyB at hn
      rw [hx] at hn
      simp only [Bool.or_eq_false_iff] at hn
      have : (m.get d).srv = none := Option.not_isSome_iff_eq_none.1 (by rw [hn.1]; simp)
      exact this
theorem idx_free {l : List Bool} (h : l.idxOf false < l.length) : l[l.idxOf false]? = some false := by
  rw [List.getElem?_eq_getElem h]
  have := List.getElem_idxOf h
  rw [this]
theorem MOk.assign (h : MOk mode m) (ht : (m.assign o).1 = true) : MOk mode (m.assign o).2 ∧ (m.assign o).2.mu < m.mu := by
  unfold Mach.assign at ht ⊢
  cases hl : m.line with
  | nil => rw [hl] at ht; cases ht
  | cons c l =>
    rw [hl] at ht
    simp only at ht ⊢
    by_cases hb : m.busy.idxOf false < m.busy.length
    · rw [if_pos hb]
      obtain ⟨hc, hs, hw, hr⟩ := h.line c (by rw [hl]; exact List.mem_cons_self)
      have hc' : c < m.cl.length := by rw [h.n6]; exact hc
      have hnd := h.nodup
      rw [hl, List.nodup_cons] at hnd
      generalize hs0 : m.busy.idxOf false = s at *
      have hfree : m.busy[s]? = some false := by rw [← hs0]; exact idx_free (by rw [hs0]; exact hb)
      have hg : ∀ (q : Mach E) d, q.cl = m.cl.set c { m.get c with srv := some s } → q.get d = if c = d then { m.get c with srv := some s } else m.get d := fun q d hq => by
        unfold Mach.get; rw [hq]; exact get_cl hc'
      have hns : ∀ d, (m.get d).srv ≠ some s := fun d hd => by rw [h.srv d s hd] at hfree; cases hfree
      refine ⟨⟨by simp [h.n6], h.s6, fun d hd => ?_, hnd.2, fun d r hr => ?_, fun d s' hd => ?_, fun d d' s' h1 h2 => ?_, fun s' hb' => ?_⟩, ?_⟩
      · have e : c ≠ d := fun e => hnd.1 (by rw [e]; exact hd)
        rw [hg _ d rfl, if_neg e]
        exact h.line d (by rw [hl]; exact List.mem_cons_of_mem _ hd)
      · rw [hg _ d rfl] at hr
        by_cases e : c = d
        · rw [if_pos e] at hr; exact h.fine c r hr
        · rw [if_neg e] at hr; exact h.fine d r hr
      · rw [hg _ d rfl] at hd
        by_cases e : c = d
        · rw [if_pos e] at hd; injection hd with hd; subst hd
          show (m.busy.set s true)[s]? = _
          rw [List.getElem?_set_self hb]
        · rw [if_neg e] at hd
          have hne : s ≠ s' := fun e' => hns d (by rw [e']; exact hd)
          show (m.busy.set s true)[s']? = _
          rw [List.getElem?_set_ne hne]; exact h.srv d s' hd
      · rw [hg _ d rfl] at h1
        rw [hg _ d' rfl] at h2
        by_cases e : c = d <;> by_cases e' : c = d'
        · rw [← e, ← e']
        · rw [if_pos e] at h1; rw [if_neg e'] at h2; injection h1 with h1; exact absurd (by rw [h1]; exact h2) (hns d')
        · rw [if_neg e] at h1; rw [if_pos e'] at h2; injection h2 with h2; exact absurd (by rw [h2]; exact h1) (hns d)
        · rw [if_neg e] at h1; rw [if_neg e'] at h2; exact h.inj d d' s' h1 h2
      · have hb' : (m.busy.set s true)[s']? = some true := hb'
        by_cases e : s = s'
        · subst e
          exact ⟨c, by rw [hg _ c rfl, if_pos rfl]⟩
        · rw [List.getElem?_set_ne e] at hb'
          obtain ⟨d, hd⟩ := h.own s' hb'
          exact ⟨d, by rw [hg _ d rfl, if_neg (fun e' => by rw [← e', hs] at hd; cases hd)]; exact hd⟩
      · have e := get_lt (m := m) hc'
        have q1 := waits_set (x := { m.get c with srv := some s }) hc'
        have q2 := bare_set (x := { m.get c with srv := some s }) hc'
        rw [← e] at q1 q2
        rw [hs] at q2
        simp only [Option.isNone_some, Option.isNone_none, Bool.toNat_false, Bool.toNat_true, Nat.add_zero] at q2
        simp only at q1
        unfold Mach.mu
        simp only
        omega
    · rw [if_neg hb] at ht; cases ht
theorem assign_no (h : (m.assign o).1 = false) : (m.assign o).2 = m := by
  unfold Mach.assign at h ⊢
  cases hl : m.line with
  | nil => rfl
  | cons c l =>
    rw [hl] at h
    simp only at h ⊢
    by_cases hb : m.busy.idxOf false < m.busy.length
    · rw [if_pos hb] at h; cases h
    · rw [if_neg hb]
theorem MOk.step (h : MOk mode m) : MOk mode (m.step o mode).2 ∧ ((m.step o mode).1 = true → (m.step o mode).2.mu < m.mu) := by
  unfold Mach.step
  cases hf : m.firstR mode with
  | some c =>
    obtain ⟨hc, hr⟩ := first_some hf
    have := h.proc (o := o) hc hr
    exact ⟨this.1, fun _ => this.2⟩
  | none =>
    have he := h.enq hf
    simp only
    cases ha : (m.enq.assign o).1 with
    | true => have := he.assign ha; exact ⟨this.1, fun _ => this.2⟩
    | false => rw [assign_no ha]; exact ⟨he, fun hh => by cases hh⟩
/-- one step, and all that follows -/
theorem iter_enough : ∀ (n k : Nat) (m : Mach E), MOk mode m → m.mu < n → m.mu < k → m.iter o mode n = m.iter o mode k
  | n + 1, k + 1, m, h, hn, hk => by
    simp only [Mach.iter]
    cases ht : (m.step o mode).1 with
    | false => simp
    | true =>
      have h1 := h.step (o := o)
      have h2 := h1.2 ht
      simp only [if_true]
      exact iter_enough n k _ h1.1 (by omega) (by omega)
theorem all_step (h : MOk mode m) (ht : (m.step o mode).1 = true) : m.all o mode = (m.step o mode).2.all o mode := by
  have h1 := h.step (o := o)
  have h2 := h1.2 ht
  unfold Mach.all
  rw [Mach.iter, if_pos ht]
  exact iter_enough _ _ _ h1.1 (by omega) (by omega)
theorem all_stop (ht : (m.step o mode).1 = false) : m.all o mode = (m.step o mode).2 := by
  unfold Mach.all
  rw [Mach.iter, if_neg (by rw [ht]; simp)]
/-- an induction over the steps -/
theorem all_ind (P : Mach E → Prop) (Q : Mach E → Mach E → Prop) (hstep : ∀ m, MOk mode m → P m → (m.step o mode).1 = true → P (m.step o mode).2 ∧ ∀ r, Q (m.step o mode).2 r → Q m r) (hstop : ∀ m, MOk mode m → P m → (m.step o mode).1 = false → Q m (m.step o mode).2) :
    ∀ (n : Nat) (m : Mach E), m.mu ≤ n → MOk mode m → P m → Q m (m.all o mode)
  | 0, m, hn, h, hp => by
    cases ht : (m.step o mode).1 with
    | false => rw [all_stop ht]; exact hstop m h hp ht
    | true => have := (h.step (o := o)).2 ht; omega
  | n + 1, m, hn, h, hp => by
    cases ht : (m.step o mode).1 with
    | false => rw [all_stop ht]; exact hstop m h hp ht
    | true =>
      have h1 := h.step (o := o)
      have h2 := h1.2 ht
      have h3 := hstep m h hp ht
      rw [all_step h ht]
      exact h3.2 _ (all_ind P Q hstep hstop n _ (by omega) h1.1 h3.1)
theorem MOk.all (h : MOk mode m) : MOk mode (m.all o mode) :=
  all_ind (fun _ => True) (fun _ r => MOk mode r) (fun m h _ _ => ⟨trivial, fun r hr => hr⟩) (fun m h _ _ => (h.step (o := o)).1) _ m (Nat.le_refl _) h trivial
theorem MOk.leave (h : MOk mode m) {c : Nat} (hc : c < 6) : MOk mode (m.leave o c) := by
  have hc' : c < m.cl.length := by rw [h.n6]; exact hc
  have hg : ∀ d, (m.leave o c).get d = if c = d then Cl.new else m.get d := fun d => get_set (m := m) hc'
  have hm : ∀ d, d ∈ (m.leave o c).line ↔ d ∈ m.line ∧ d ≠ c := fun d => by
    show d ∈ m.line.filter _ ↔ _
    rw [List.mem_filter]; simp
  refine ⟨by simp [Mach.leave, h.n6], h.s6, fun d hd => ?_, h.nodup.filter _, fun d r hr => ?_, fun d s hd => ?_, fun d d' s h1 h2 => ?_, fun s hb => ?_⟩
  · obtain ⟨h1, h2⟩ := (hm d).1 hd
    rw [hg, if_neg (fun e => h2 e.symm)]; exact h.line d h1
  · rw [hg] at hr
    by_cases e : c = d
    · rw [if_pos e] at hr; cases hr
    · rw [if_neg e] at hr; exact h.fine d r hr
  · rw [hg] at hd
    by_cases e : c = d
    · rw [if_pos e] at hd; cases hd
    · rw [if_neg e] at hd
      have := h.srv d s hd
      unfold Mach.leave
      simp only
      cases hx : (m.get c).srv with
      | none => exact this
      | some s' =>
        simp only
        rw [List.getElem?_set_ne (fun e' => e (h.inj c d s (by rw [hx, e']) hd))]; exact this
  · rw [hg] at h1 h2
    by_cases e : c = d
    · rw [if_pos e] at h1; cases h1
    · by_cases e' : c = d'
      · rw [if_pos e'] at h2; cases h2
      · rw [if_neg e] at h1; rw [if_neg e'] at h2; exact h.inj d d' s h1 h2
  · unfold Mach.leave at hb
    simp only at hb
    cases hx : (m.get c).srv with
    | none =>
      rw [hx] at hb
      obtain ⟨d, hd⟩ := h.own s hb
      exact ⟨d, by rw [hg, if_neg (fun e => by rw [← e, hx] at hd; cases hd)]; exact hd⟩
    | some s' =>
      rw [hx] at hb
      simp only at hb
      by_cases e : s' = s
      · subst e
        rw [List.getElem?_set_self (List.getElem?_eq_some_iff.1 (h.srv c s' hx)).1] at hb; cases hb
      · rw [List.getElem?_set_ne e] at hb
        obtain ⟨d, hd⟩ := h.own s hb
        exact ⟨d, by rw [hg, if_neg (fun e' => e (by rw [← e', hx] at hd; injection hd))]; exact hd⟩
theorem reqOf_fine (k : UInt8) (t : ByteArray) : (reqOf k t).fine := by
  unfold reqOf
  split
  · rename_i h; exact .inr (text_read h.2).1
  · exact .inl rfl
theorem fine_app {l : List Req} {r : Req} (h : ∀ q ∈ l, q.fine) (hr : r.fine) : ∀ q ∈ l ++ [r], q.fine := fun q hq => by
  rcases List.mem_append.1 hq with hq | hq
  · exact h q hq
  · rw [List.mem_singleton] at hq; rw [hq]; exact hr
theorem ready_app {x : Cl} {r : Req} {b : ByteArray} (hw : x.wait ≠ []) (hr : readyB mode x = false) : readyB mode { x with bytes := b, wait := x.wait ++ [r] } = false := by
  unfold readyB at hr ⊢
  cases hx : x.wait with
  | nil => exact absurd hx hw
  | cons q l => rw [hx] at hr; exact hr
theorem MOk.feed (h : MOk mode m) {c : Nat} (hc : c < 6) (n : Nat) : MOk mode (m.feed o mode n c) := by
  induction n generalizing m with
  | zero => exact h
  | succ n ih =>
    unfold Mach.feed
    cases hp : pull (m.get c).bytes with
    | none => exact h
    | some q =>
      obtain ⟨k, t, j⟩ := q
      simp only
      split
      · exact h.all.leave hc
      · refine ih (h.turn hc (fine_app (fun q hq => h.fine c q hq) (reqOf_fine k t)) rfl fun hl => ⟨by simp, ?_⟩)
        obtain ⟨_, _, h3, h4⟩ := h.line c hl
        exact ready_app h3 h4
theorem MOk.bytes (h : MOk mode m) {c : Nat} (hc : c < 6) (b : ByteArray) : MOk mode (m.set c { m.get c with bytes := b }) :=
  h.turn hc (fun r hr => h.fine c r hr) rfl fun hl => ⟨(h.line c hl).2.2.1, (h.line c hl).2.2.2⟩
theorem MOk.deliver (h : MOk mode m) {c : Nat} (hc : c < 6) (d : ByteArray) : MOk mode (m.deliver o mode c d) := (h.bytes hc _).feed hc _
theorem MOk.act (h : MOk mode m) {a : Act} (ha : actE a = 0) : MOk mode (m.act o mode a) := by
  have hc : a.c.toNat < 6 := by
    unfold actE at ha
    split at ha
    · cases ha
    split at ha
    · cases ha
    omega
  unfold Mach.act
  split
  · exact (h.deliver hc _).all
  · exact (h.leave hc).all
theorem actsE_cons {a : Act} {l : List Act} (h : actsE (a :: l) = 0) : actE a = 0 ∧ actsE l = 0 := by
  unfold actsE at h
  split at h
  · rename_i hh; exact absurd h hh
  · rename_i hh; exact ⟨Classical.byContradiction hh, h⟩
theorem MOk.run (h : MOk mode m) {l : List Act} (hl : actsE l = 0) : MOk mode (m.run o mode l) := by
  induction l generalizing m with
  | nil => exact h
  | cons a l ih => exact ih (h.act (actsE_cons hl).1) (actsE_cons hl).2
end
theorem start_ok {E : Type} (e : E) (n : Nat) (mode : Int) : MOk mode (Mach.start e n) := by
  have hg : ∀ c, (Mach.start e n).get c = Cl.new := fun c => by
    unfold Mach.get Mach.start
    simp only
    rw [List.getD_eq_getElem?_getD, List.getElem?_replicate]
    split <;> rfl
  refine ⟨by simp [Mach.start], by simp [Mach.start], (fun c hc => by cases hc), List.nodup_nil, (fun c r hr => by rw [hg] at hr; cases hr), (fun c s hs => by rw [hg] at hs; cases hs), (fun c d s h1 _ => by rw [hg] at h1; cases h1), fun s hs => ?_⟩
  have : (List.replicate n false)[s]? = some true := hs
  rw [List.getElem?_replicate] at this
  split at this <;> cases this

end Go.Proofs.YtpbaobmegomfpabDoor

/-
  Plain mathematics: a statement sees of other sessions only the keys of their Writes; a session is restored.
-/
namespace Go.Proofs.YtpbaobmegomfpabDoor
open Go.RowKit
set_option linter.unusedVariables false

theorem at_lt {W : Wd} {i : Nat} (h : i < W.ss.length) : W.at i = W.ss[i] := by
  unfold Wd.at; rw [List.getD_eq_getElem?_getD, List.getElem?_eq_getElem h]; rfl
theorem put_self {W : Wd} {i : Nat} (h : i < W.ss.length) : (⟨W.rows, W.ss.set i (W.at i)⟩ : Wd) = W := by
  rw [at_lt h, List.set_getElem_self]
theorem any_own {W : Wd} {s : Nat} (h : s < W.ss.length) (key : ByteArray) : W.ss.any (fun x => fndL x.wr key) = (fndL (W.at s).wr key || heldB W.ss s key) := by
  rw [at_lt h]
  rw [Bool.eq_iff_iff, Bool.or_eq_true, any_get, heldB_iff]
  constructor
  · rintro ⟨k, hk, hf⟩
    by_cases e : k = s
    · subst e; exact .inl hf
    · exact .inr ⟨k, hk, hf, by omega⟩
  · rintro (hf | ⟨k, hk, hf, _⟩)
    · exact ⟨s, h, hf⟩
    · exact ⟨k, hk, hf⟩
/-- two worlds that a statement cannot tell apart -/
structure Like (A B : Wd) (s c : Nat) : Prop where
  a : WorldOk A
  b : WorldOk B
  hs : s < A.ss.length
  hc : c < B.ss.length
  rows : A.rows = B.rows
  me : A.at s = B.at c
  held : ∀ key, heldB A.ss s key = heldB B.ss c key
section
variable {A B : Wd} {s c : Nat}
theorem Like.fnd (h : Like A B s c) (key : ByteArray) : fndL (allL A) key = fndL (allL B) key := by
  rw [fnd_all (pairsB_rising h.a.rows).1, fnd_all (pairsB_rising h.b.rows).1, any_own h.hs, any_own h.hc, h.rows, h.me, h.held]
theorem Like.len (h : Like A B s c) : (allL A).length = (allL B).length := by
  have h1 := sub_len (all_rising h.b) (all_rising h.a) (fun p hp => by rw [← h.fnd]; exact fnd_of_mem hp)
  have h2 := sub_len (all_rising h.a) (all_rising h.b) (fun p hp => by rw [h.fnd]; exact fnd_of_mem hp)
  omega
/-- both have turned in the same way -/
def Both (A B : Wd) (s c : Nat) (r q : Wd × Ans) : Prop := ∃ rows x a, r = (⟨rows, A.ss.set s x⟩, a) ∧ q = (⟨rows, B.ss.set c x⟩, a)
theorem both_ite {p : Prop} [Decidable p] {r r' q q' : Wd × Ans} (h1 : Both A B s c r q) (h2 : Both A B s c r' q') : Both A B s c (if p then r else r') (if p then q else q') := by
  by_cases h : p
  · rw [if_pos h, if_pos h]; exact h1
  · rw [if_neg h, if_neg h]; exact h2
theorem Like.same (h : Like A B s c) (a : Ans) : Both A B s c (A, a) (B, a) :=
  ⟨A.rows, A.at s, a, by rw [put_self h.hs], by rw [h.rows, h.me, put_self h.hc]⟩
theorem Like.put (h : Like A B s c) (x : Sess) (a : Ans) : Both A B s c (A.put s x, a) (B.put c x, a) := ⟨A.rows, x, a, rfl, by rw [h.rows]; rfl⟩
theorem Like.did1 (h : Like A B s c) (k : Int) (key val : ByteArray) : Both A B s c (did1 A s k key val) (did1 B c k key val) := by
  unfold Go.Proofs.YtpbaobmegomfpabDoor.did1
  simp only
  rw [h.me, h.rows, h.held, h.fnd, h.len]
  have hr := h.rows
  refine both_ite (h.same _) ?_
  refine both_ite (both_ite (h.put _ _) (h.same _)) ?_
  refine both_ite (both_ite (h.same _) (both_ite ⟨_, _, _, rfl, rfl⟩ (h.put _ _))) ?_
  refine both_ite (both_ite (h.put _ _) (h.same _)) ?_
  refine both_ite (h.same _) ?_
  refine both_ite (h.same _) ?_
  refine both_ite (both_ite (h.same _) (h.put _ _)) ?_
  refine both_ite (both_ite (h.same _) (both_ite (h.same _) (both_ite (h.put _ _) ?_))) ?_
  · refine ⟨plusL B.rows key val, A.at s, ok', ?_, ?_⟩
    · rw [show A.ss.set s (A.at s) = A.ss by rw [at_lt h.hs, List.set_getElem_self]]
    · rw [h.me, show B.ss.set c (B.at c) = B.ss by rw [at_lt h.hc, List.set_getElem_self]]
  exact both_ite (both_ite (h.same _) (h.put _ _)) (h.same _)
theorem Like.didM (h : Like A B s c) (k : Int) (key val : ByteArray) : Both A B s c (didM A s k key val) (didM B c k key val) := by
  unfold Go.Proofs.YtpbaobmegomfpabDoor.didM
  rw [h.me]
  refine both_ite (both_ite (h.same _) ?_) (h.did1 _ _ _)
  cases atL (B.at c).prep key with
  | none => exact h.same _
  | some t => exact h.did1 _ _ _
theorem Like.doM (h : Like A B s c) (k : Int) (key val : ByteArray) : Both A B s c (doM A s k key val) (doM B c k key val) := by
  obtain ⟨rows, x, a, h1, h2⟩ := h.didM k key val
  have e1 : ∀ y, (⟨rows, A.ss.set s y⟩ : Wd).at s = y := fun y => by unfold Wd.at; simp only; rw [getD_set, if_pos ⟨rfl, h.hs⟩]
  have e2 : ∀ y, (⟨rows, B.ss.set c y⟩ : Wd).at c = y := fun y => by unfold Wd.at; simp only; rw [getD_set, if_pos ⟨rfl, h.hc⟩]
  unfold Go.Proofs.YtpbaobmegomfpabDoor.doM
  simp only [h1, h2, e1, e2]
  refine both_ite ⟨rows, { x with st := 2, wr := [] }, a, ?_, ?_⟩ ⟨rows, x, a, rfl, rfl⟩
  · simp [Wd.put]
  · simp [Wd.put]
end
/-- what a statement leaves, of its session and of the others -/
theorem doM_form {W : Wd} (h : WorldOk W) {i : Nat} (hi : i < W.ss.length) (k : Int) (key val : ByteArray) : ∃ rows x a, doM W i k key val = (⟨rows, W.ss.set i x⟩, a) := by
  obtain ⟨rows, x, a, h1, _⟩ := (Like.doM (A := W) (B := W) (s := i) (c := i) ⟨h, h, hi, hi, rfl, rfl, fun _ => rfl⟩ k key val)
  exact ⟨rows, x, a, h1⟩

/-- lists that rise and have the same values are one -/
theorem rising_ext : ∀ {l m : PL}, risingB l = true → risingB m = true → (∀ k, atL l k = atL m k) → l = m
  | [], [], _, _, _ => rfl
  | [], q :: m, _, _, h => by have := h q.1; rw [atL_yes (eqB_self _)] at this; cases this
  | p :: l, [], _, _, h => by have := h p.1; rw [atL_yes (eqB_self _)] at this; cases this
  | p :: l, q :: m, hl, hm, h => by
    have hp : ∀ {l : PL} {p : ByteArray × ByteArray}, risingB (p :: l) = true → ∀ k v, atL (p :: l) k = some v → p.1 = k ∨ ltB p.1 k = true := fun {l p} hl k v hk => by
      have := atL_mem hk
      rcases List.mem_cons.1 this with e | hm
      · left; rw [← e]
      · right; exact rising_head hl _ hm
    have e1 : p.1 = q.1 := by
      have a1 : atL (q :: m) p.1 = some p.2 := by rw [← h, atL_yes (eqB_self _)]
      have a2 : atL (p :: l) q.1 = some q.2 := by rw [h, atL_yes (eqB_self _)]
      rcases hp hm _ _ a1 with e | h1
      · exact e.symm
      · rcases hp hl _ _ a2 with e | h2
        · exact e
        · have := ltB_asymm h1; rw [h2] at this; cases this
    have e2 : p.2 = q.2 := by
      have a1 := h p.1
      rw [atL_yes (eqB_self _), atL_yes (by rw [e1]; exact eqB_self _)] at a1
      injection a1
    have e3 : l = m := rising_ext (rising_tail hl) (rising_tail hm) (fun k => by
      by_cases e : eqB p.1 k = true
      · have e' := eqB_iff.1 e
        rw [atL_none (fun r hr => eqB_false.2 (fun x => by have := ltB_ne (rising_head hl r hr); exact this (by rw [e', x]))), atL_none (fun r hr => eqB_false.2 (fun x => by have := ltB_ne (rising_head hm r hr); exact this (by rw [← e1, e', x])))]
      · have e : eqB p.1 k = false := by simpa using e
        have := h k
        rwa [atL_no e, atL_no (by rw [← e1]; exact e)] at this)
    rw [e3, Prod.ext e1 e2]
theorem pairB_iff {p q : ByteArray × ByteArray} : pairB p q = true ↔ p = q := by
  unfold pairB; rw [Bool.and_eq_true, eqB_iff, eqB_iff]
  exact ⟨fun h => Prod.ext h.1 h.2, fun h => by rw [h]; exact ⟨rfl, rfl⟩⟩
theorem without_mem {l o : PL} {p : ByteArray × ByteArray} : p ∈ without l o ↔ p ∈ l ∧ p ∉ o := by
  unfold without
  rw [List.mem_filter]
  simp only [Bool.not_eq_true', and_congr_right_iff]
  intro _
  rw [← Bool.not_eq_true, List.any_eq_true]
  exact ⟨fun h hp => h ⟨p, hp, pairB_iff.2 rfl⟩, fun h ⟨q, hq, e⟩ => h (by rw [← pairB_iff.1 e]; exact hq)⟩
theorem without_nil {l o : PL} : (without l o).length > 0 ↔ ∃ p ∈ l, p ∉ o := by
  rw [gt_iff_lt, List.length_pos_iff_exists_mem]
  exact ⟨fun ⟨p, hp⟩ => ⟨p, (without_mem.1 hp).1, (without_mem.1 hp).2⟩, fun ⟨p, h1, h2⟩ => ⟨p, without_mem.2 ⟨h1, h2⟩⟩⟩
theorem at_plus {l : PL} {k v k' : ByteArray} (h : risingB l = true) : atL (plusL l k v) k' = if eqB k k' then some v else atL l k' := by rw [plus_ins h, at_ins h]
theorem mem_at {T : PL} (h : risingB T = true) {p : ByteArray × ByteArray} (hp : p ∈ T) : atL T p.1 = some p.2 := by
  induction T with
  | nil => cases hp
  | cons q T ih =>
    rcases List.mem_cons.1 hp with rfl | hp
    · exact atL_yes (eqB_self _)
    · rw [atL_no (eqB_false.2 (ltB_ne (rising_head h p hp)))]; exact ih (rising_tail h) hp
/-- stores of pairs of T, over pairs of T -/
theorem plusF_at {T : PL} (hT : risingB T = true) : ∀ {l cur : PL}, risingB cur = true → (∀ p ∈ cur, p ∈ T) → (∀ p ∈ l, p ∈ T) → ∀ k, atL (plusF cur l) k = if (atL cur k).isSome || fndL l k then atL T k else none
  | [], cur, hc, h1, _, k => by
    show atL cur k = _
    have : fndL [] k = false := rfl
    rw [this, Bool.or_false]
    cases h : atL cur k with
    | none => simp
    | some v => simp [mem_at hT (h1 _ (atL_mem h))]
  | p :: l, cur, hc, h1, h2, k => by
    have hp := h2 p List.mem_cons_self
    have e : plusF cur (p :: l) = plusF (plusL cur p.1 p.2) l := rfl
    rw [e, plusF_at hT (by rw [plus_ins hc]; exact ins_rising hc) (fun q hq => by
      rcases plusL_mem hq with rfl | hq
      · exact hp
      · exact h1 q hq) (fun q hq => h2 q (List.mem_cons_of_mem _ hq)), at_plus hc]
    have : fndL (p :: l) k = (eqB p.1 k || fndL l k) := by
      unfold fndL
      cases e : eqB p.1 k
      · rw [atL_no e]; simp
      · rw [atL_yes e]; simp
    rw [this]
    cases e : eqB p.1 k <;> simp
theorem plusF_whole {T cur : PL} (hT : risingB T = true) (hc : risingB cur = true) (h : ∀ p ∈ cur, p ∈ T) : plusF cur (without T cur) = T := by
  refine rising_ext (plusF_up hc _) hT fun k => ?_
  rw [plusF_at hT hc h (fun p hp => (without_mem.1 hp).1)]
  cases hk : atL T k with
  | none => split <;> rfl
  | some v =>
    have hm := atL_mem hk
    by_cases hin : (k, v) ∈ cur
    · have := atL_of_mem hin; simp only at this; rw [this]; simp
    · have := fnd_of_mem (without_mem.2 ⟨hm, hin⟩); simp only at this; rw [this]; simp
section
variable {w : Wd} {s : Nat}
theorem wput_at (hs : s < w.ss.length) (x : Sess) : (w.put s x).at s = x := by unfold Wd.at Wd.put; simp only; rw [getD_set, if_pos ⟨rfl, hs⟩]
theorem wput_put (x y : Sess) : (w.put s x).put s y = w.put s y := by unfold Wd.put; simp
/-- one Set, one Prep, in an Idle session with room -/
theorem do_set (hs : s < w.ss.length) (h0 : (w.at s).st = 0) {key val : ByteArray} (hr : fndL (w.at s).set key = true ∨ (w.at s).set.length < 6) : (doM w s 9 key val).1 = w.put s { w.at s with set := plusL (w.at s).set key val } := by
  have : ¬ (fndL (w.at s).set key = false ∧ 6 ≤ (w.at s).set.length) := fun h => by
    rcases hr with hr | hr
    · rw [hr] at h; cases h.1
    · omega
  unfold doM didM did1
  simp [h0, this, ok']
theorem do_prep (hs : s < w.ss.length) (h0 : (w.at s).st = 0) {key val : ByteArray} (hr : fndL (w.at s).prep key = true ∨ (w.at s).prep.length < 6) : (doM w s 11 key val).1 = w.put s { w.at s with prep := plusL (w.at s).prep key val } := by
  have : ¬ (fndL (w.at s).prep key = false ∧ 6 ≤ (w.at s).prep.length) := fun h => by
    rcases hr with hr | hr
    · rw [hr] at h; cases h.1
    · omega
  unfold doM didM did1
  simp [h0, this, ok']
theorem room_T {T cur : PL} (hT : risingB T = true) (h6 : T.length ≤ 6) (hc : risingB cur = true) (h : ∀ p ∈ cur, p ∈ T) {p : ByteArray × ByteArray} (hp : p ∈ T) : fndL cur p.1 = true ∨ cur.length < 6 := by
  cases hf : fndL cur p.1
  · right
    have := sub_less hT hc (fun q hq => fnd_of_mem (h q hq)) (fnd_of_mem hp) hf
    omega
  · exact .inl rfl
theorem doW_set {T : PL} (hT : risingB T = true) (h6 : T.length ≤ 6) : ∀ {l : PL} {w : Wd} (hs : s < w.ss.length) (h0 : (w.at s).st = 0) (hr : risingB (w.at s).set = true) (h1 : ∀ p ∈ (w.at s).set, p ∈ T) (h2 : ∀ p ∈ l, p ∈ T), doW w s 9 l = w.put s { w.at s with set := plusF (w.at s).set l }
  | [], w, hs, h0, hr, h1, _ => by show w = _; exact (put_self hs).symm
  | p :: l, w, hs, h0, hr, h1, h2 => by
    have e : doW w s 9 (p :: l) = doW (doM w s 9 p.1 p.2).1 s 9 l := rfl
    have hp := h2 p List.mem_cons_self
    rw [e, do_set hs h0 (room_T hT h6 hr h1 hp), doW_set hT h6 (by rw [wput_len]; exact hs) (by rw [wput_at hs]; exact h0) (by rw [wput_at hs]; simp only; rw [plus_ins hr]; exact ins_rising hr) (by
      rw [wput_at hs]
      intro q hq
      rcases plusL_mem hq with rfl | hq
      · exact hp
      · exact h1 q hq) (fun q hq => h2 q (List.mem_cons_of_mem _ hq)), wput_at hs, wput_put]
    rfl
theorem doW_prep {T : PL} (hT : risingB T = true) (h6 : T.length ≤ 6) : ∀ {l : PL} {w : Wd} (hs : s < w.ss.length) (h0 : (w.at s).st = 0) (hr : risingB (w.at s).prep = true) (h1 : ∀ p ∈ (w.at s).prep, p ∈ T) (h2 : ∀ p ∈ l, p ∈ T), doW w s 11 l = w.put s { w.at s with prep := plusF (w.at s).prep l }
  | [], w, hs, h0, hr, h1, _ => by show w = _; exact (put_self hs).symm
  | p :: l, w, hs, h0, hr, h1, h2 => by
    have e : doW w s 11 (p :: l) = doW (doM w s 11 p.1 p.2).1 s 11 l := rfl
    have hp := h2 p List.mem_cons_self
    rw [e, do_prep hs h0 (room_T hT h6 hr h1 hp), doW_prep hT h6 (by rw [wput_len]; exact hs) (by rw [wput_at hs]; exact h0) (by rw [wput_at hs]; simp only; rw [plus_ins hr]; exact ins_rising hr) (by
      rw [wput_at hs]
      intro q hq
      rcases plusL_mem hq with rfl | hq
      · exact hp
      · exact h1 q hq) (fun q hq => h2 q (List.mem_cons_of_mem _ hq)), wput_at hs, wput_put]
    rfl
/-- a session is restored on a server that is free -/
theorem restore_ok (h : WorldOk w) (hs : s < w.ss.length) (h0 : (w.at s).st = 0) {p : PL × PL} (hp1 : pairsB p.1 6 9 = true) (hp2 : pairsB p.2 6 11 = true) : restoreW w s p = w.put s ⟨0, p.1, p.2, [], []⟩ := by
  have hx := h.sess s hs
  rw [← at_lt hs] at hx
  obtain ⟨r1, l1, _⟩ := pairsB_rising hp1
  obtain ⟨r2, l2, _⟩ := pairsB_rising hp2
  have hsav := hx.idle h0
  have hwr := hx.tx (by omega)
  unfold restoreW
  simp only
  obtain ⟨x, hw1, hx0, hxs, hxp, hxv, hxw, hrs, hrp, hms, hmp⟩ : ∃ x : Sess, (if (without (w.at s).set p.1).length > 0 ∨ (without (w.at s).prep p.2).length > 0 then (doM w s 4 ⟨#[]⟩ ⟨#[]⟩).1 else w) = w.put s x ∧ x.st = 0 ∧ True ∧ True ∧ x.sav = [] ∧ x.wr = [] ∧ risingB x.set = true ∧ risingB x.prep = true ∧ (∀ q ∈ x.set, q ∈ p.1) ∧ (∀ q ∈ x.prep, q ∈ p.2) := by
    by_cases hc : (without (w.at s).set p.1).length > 0 ∨ (without (w.at s).prep p.2).length > 0
    · rw [if_pos hc]
      refine ⟨{ w.at s with set := [], prep := [] }, ?_, h0, trivial, trivial, hsav, hwr, rfl, rfl, (fun q hq => by cases hq), (fun q hq => by cases hq)⟩
      unfold doM didM did1
      simp [h0, ok']
    · rw [if_neg hc]
      have h1 : ∀ q ∈ (w.at s).set, q ∈ p.1 := fun q hq => Classical.byContradiction fun hn => hc (.inl (without_nil.2 ⟨q, hq, hn⟩))
      have h2 : ∀ q ∈ (w.at s).prep, q ∈ p.2 := fun q hq => Classical.byContradiction fun hn => hc (.inr (without_nil.2 ⟨q, hq, hn⟩))
      exact ⟨w.at s, (put_self hs).symm, h0, trivial, trivial, hsav, hwr, (pairsB_rising hx.set).1, (pairsB_rising hx.prep).1, h1, h2⟩
  rw [hw1, wput_at hs]
  rw [doW_set r1 l1 (by rw [wput_len]; exact hs) (by rw [wput_at hs]; exact hx0) (by rw [wput_at hs]; exact hrs) (by rw [wput_at hs]; exact hms) (fun q hq => (without_mem.1 hq).1), wput_at hs, wput_put, plusF_whole r1 hrs hms]
  rw [doW_prep r2 l2 (by rw [wput_len]; exact hs) (by rw [wput_at hs]; exact hx0) (by rw [wput_at hs]; exact hrp) (by rw [wput_at hs]; exact hmp) (fun q hq => (without_mem.1 hq).1), wput_at hs, wput_put]
  simp only
  rw [plusF_whole r2 hrp hmp, hx0, hxv, hxw]
end

end Go.Proofs.YtpbaobmegomfpabDoor

/-
  Plain mathematics: clients that share servers are served as if each had a session of its own (P3.5).
-/
namespace Go.Proofs.YtpbaobmegomfpabDoor
open Go.RowKit
set_option linter.unusedVariables false

/-- the pool and the house are alike -/
structure Alike (P : Mach PE) (H : Mach Wd) : Prop where
  cl : P.cl = H.cl
  busy : P.busy = H.busy
  line : P.line = H.line
  sent : P.sent = H.sent
  deeds : P.deeds = H.deeds
  rows : P.e.w.rows = H.e.rows
  plen : P.e.w.ss.length = P.busy.length
  hlen : H.e.ss.length = 6
  klen : P.e.kept.length = 6
  okP : WorldOk P.e.w
  okH : WorldOk H.e
  hold : ∀ c s, (P.get c).srv = some s → H.e.at c = P.e.w.at s
  bare : ∀ c, c < 6 → (P.get c).srv = none → H.e.at c = ⟨0, (P.e.of c).1, (P.e.of c).2, [], []⟩
  free : ∀ s, s < P.e.w.ss.length → (∀ c, (P.get c).srv ≠ some s) → (P.e.w.at s).st = 0
section
variable {P : Mach PE} {H : Mach Wd} {mode : Int}
theorem Alike.get (h : Alike P H) (c : Nat) : H.get c = P.get c := by unfold Mach.get; rw [h.cl]
theorem set_at {W : Wd} {i : Nat} (h : i < W.ss.length) (rows : PL) (x : Sess) (j : Nat) : (⟨rows, W.ss.set i x⟩ : Wd).at j = if i = j then x else W.at j := by
  unfold Wd.at; simp only; rw [getD_set]; by_cases e : i = j <;> simp [e]; intro hh; omega
theorem sess_at {W : Wd} (h : WorldOk W) {i : Nat} (hi : i < W.ss.length) : SessOk (W.at i) := by rw [at_lt hi]; exact h.sess i hi
theorem Alike.srvlt (h : Alike P H) (hP : MOk mode P) {c s : Nat} (hs : (P.get c).srv = some s) : s < P.e.w.ss.length ∧ c < H.e.ss.length := by
  refine ⟨?_, ?_⟩
  · rw [h.plen]; exact (List.getElem?_eq_some_iff.1 (hP.srv c s hs)).1
  · rw [h.hlen]; have := srv_lt hs; rw [hP.n6] at this; exact this
theorem held_at {ss : List Sess} {me : Int} {key : ByteArray} {W : Wd} (hW : W.ss = ss) : heldB ss me key = true ↔ ∃ k, k < ss.length ∧ fndL (W.at k).wr key = true ∧ (k : Int) ≠ me := by
  rw [heldB_iff]
  constructor
  · rintro ⟨k, hk, h1, h2⟩
    exact ⟨k, hk, by rw [at_lt (by rw [hW]; exact hk)]; simp only [hW]; exact h1, h2⟩
  · rintro ⟨k, hk, h1, h2⟩
    refine ⟨k, hk, ?_, h2⟩
    rw [at_lt (by rw [hW]; exact hk)] at h1
    simp only [hW] at h1
    exact h1
theorem Alike.like (h : Alike P H) (hP : MOk mode P) {c s : Nat} (hs : (P.get c).srv = some s) : Like P.e.w H.e s c := by
  obtain ⟨h1, h2⟩ := h.srvlt hP hs
  refine ⟨h.okP, h.okH, h1, h2, h.rows, (h.hold c s hs).symm, fun key => ?_⟩
  rw [Bool.eq_iff_iff, held_at (W := P.e.w) rfl, held_at (W := H.e) rfl]
  constructor
  · rintro ⟨s', hs', hf, hne⟩
    have : ∃ c', (P.get c').srv = some s' := Classical.byContradiction fun hn => by
      have h0 := h.free s' hs' (fun c' hc' => hn ⟨c', hc'⟩)
      rw [(sess_at h.okP hs').tx (by omega)] at hf
      cases hf
    obtain ⟨c', hc'⟩ := this
    refine ⟨c', (h.srvlt hP hc').2, by rw [h.hold c' s' hc']; exact hf, fun e => hne ?_⟩
    have : c' = c := by omega
    subst this
    rw [hs] at hc'; injection hc' with hc'; rw [hc']
  · rintro ⟨c', hc', hf, hne⟩
    cases hx : (P.get c').srv with
    | none => rw [h.bare c' (by rw [h.hlen] at hc'; exact hc') hx] at hf; cases hf
    | some s' =>
      refine ⟨s', (h.srvlt hP hx).1, by rw [← h.hold c' s' hx]; exact hf, fun e => hne ?_⟩
      have : s' = s := by omega
      subst this
      rw [hP.inj c' c s' hx hs]
/-- only clients' bytes and requests have turned -/
theorem Alike.turn (h : Alike P H) {c : Nat} {x : Cl} (hc : c < P.cl.length) (hs : x.srv = (P.get c).srv) : Alike (P.set c x) (H.set c x) := by
  have hg : ∀ d, ((P.set c x).get d).srv = (P.get d).srv := fun d => by
    rw [get_set hc]
    by_cases e : c = d
    · subst e; rw [if_pos rfl]; exact hs
    · rw [if_neg e]
  exact ⟨by show P.cl.set c x = H.cl.set c x; rw [h.cl], h.busy, h.line, h.sent, h.deeds, h.rows, h.plen, h.hlen, h.klen, h.okP, h.okH, fun d s hd => h.hold d s (by rw [← hg]; exact hd), fun d hd hn => h.bare d hd (by rw [← hg]; exact hn), fun s hl hn => h.free s hl (fun d hd => hn d (by rw [hg]; exact hd))⟩
theorem Alike.tell (h : Alike P H) (c : Nat) (a : Ans) (st : Int) : Alike (P.tell c a st) (H.tell c a st) := by
  have e : (P.tell c a st).sent = (H.tell c a st).sent := by unfold Mach.tell; simp only; rw [h.sent]
  exact ⟨h.cl, h.busy, h.line, e, h.deeds, h.rows, h.plen, h.hlen, h.klen, h.okP, h.okH, h.hold, h.bare, h.free⟩
theorem Alike.state (h : Alike P H) (hP : MOk mode P) {c : Nat} (hc : c < 6) : poolO.state P.e c (P.get c).srv = houseO.state H.e c (H.get c).srv := by
  show P.e.state (P.get c).srv = (H.e.at c).st
  cases hx : (P.get c).srv with
  | none => rw [h.bare c hc hx]; rfl
  | some s => rw [h.hold c s hx]; rfl
theorem Alike.exec (h : Alike P H) (hP : MOk mode P) {c s : Nat} (hs : (P.get c).srv = some s) {r : Req} (hr : checkE r.k r.key r.val = 0) {P' : Mach PE} {H' : Mach Wd} (e1 : P'.e = (poolO.exec P.e c s r).1) (e2 : H'.e = (houseO.exec H.e c s r).1) (e3 : P'.cl = P.cl) (e4 : H'.cl = H.cl)
    (e5 : P'.busy = P.busy) (e6 : H'.busy = H.busy) (e7 : P'.line = P.line) (e8 : H'.line = H.line) (e9 : P'.sent = H'.sent) (e10 : P'.deeds = H'.deeds) : Alike P' H' ∧ (poolO.exec P.e c s r).2 = (houseO.exec H.e c s r).2 := by
  have hl := h.like hP hs
  obtain ⟨rows, x, a, h1, h2⟩ := hl.doM r.k r.key r.val
  have o1 := doM_ok h.okP hl.hs hr
  have o2 := doM_ok h.okH hl.hc hr
  have x1 : P'.e = ⟨⟨rows, P.e.w.ss.set s x⟩, P.e.kept⟩ := by rw [e1]; show (⟨(doM P.e.w s r.k r.key r.val).1, P.e.kept⟩ : PE) = _; rw [h1]
  have x2 : H'.e = ⟨rows, H.e.ss.set c x⟩ := by rw [e2]; show (doM H.e c r.k r.key r.val).1 = _; rw [h2]
  have hg : ∀ d, P'.get d = P.get d := fun d => by unfold Mach.get; rw [e3]
  refine ⟨⟨by rw [e3, e4, h.cl], by rw [e5, e6, h.busy], by rw [e7, e8, h.line], e9, e10, by rw [x1, x2], by rw [x1, e5]; simp [h.plen], by rw [x2]; simp [h.hlen], by rw [x1]; exact h.klen, ?_, ?_, fun d s' hd => ?_, fun d hd hn => ?_, fun s' hl' hn => ?_⟩, ?_⟩
  · rw [x1]; rw [h1] at o1; exact o1.1
  · rw [x2]; rw [h2] at o2; exact o2.1
  · rw [hg] at hd
    rw [x1, x2, set_at hl.hc, set_at hl.hs]
    by_cases e : c = d
    · subst e
      rw [if_pos rfl, if_pos (by rw [hs] at hd; injection hd)]
    · rw [if_neg e, if_neg (fun e' => e (hP.inj c d s hs (by rw [e']; exact hd)))]
      exact h.hold d s' hd
  · rw [hg] at hn
    rw [x2, set_at hl.hc, if_neg (fun e => by rw [← e, hs] at hn; cases hn)]
    have := h.bare d hd hn
    rw [this]
    show _ = (⟨0, (P'.e.of d).1, (P'.e.of d).2, [], []⟩ : Sess)
    rw [x1]; rfl
  · rw [x1] at hl' ⊢
    rw [set_at hl.hs, if_neg (fun e => hn c (by rw [hg, hs, e]))]
    exact h.free s' (by simpa using hl') (fun d hd => hn d (by rw [hg]; exact hd))
  · show ((doM P.e.w s r.k r.key r.val).2, ((doM P.e.w s r.k r.key r.val).1.at s).st) = ((doM H.e c r.k r.key r.val).2, ((doM H.e c r.k r.key r.val).1.at c).st)
    rw [h1, h2, set_at hl.hs, set_at hl.hc, if_pos rfl, if_pos rfl]
theorem Alike.release (h : Alike P H) (hP : MOk mode P) {c s : Nat} (hs : (P.get c).srv = some s) (h0 : (P.e.w.at s).st = 0) : Alike (P.release poolO c s) (H.release houseO c s) := by
  obtain ⟨l1, l2⟩ := h.srvlt hP hs
  have hc' := srv_lt hs
  have hg : ∀ d, (P.release poolO c s).get d = if c = d then { P.get c with srv := none } else P.get d := fun d => get_set (m := P) hc'
  have ho : ∀ d, (P.release poolO c s).e.of d = if c = d then ((P.e.w.at s).set, (P.e.w.at s).prep) else P.e.of d := fun d => by
    show (P.e.kept.set c _).getD d ([], []) = _
    rw [getD_set]
    have : c < P.e.kept.length := by rw [h.klen, ← hP.n6]; exact hc'
    by_cases e : c = d
    · rw [if_pos e, if_pos ⟨e, this⟩]
    · rw [if_neg e, if_neg (fun hh => e hh.1)]; rfl
  have hx := sess_at h.okP l1
  refine ⟨?_, ?_, h.line, h.sent, h.deeds, h.rows, ?_, h.hlen, ?_, h.okP, h.okH, fun d s' hd => ?_, fun d hd hn => ?_, fun s' hl hn => ?_⟩
  · show P.cl.set c _ = H.cl.set c _; rw [h.cl, h.get]
  · show P.busy.set s false = H.busy.set s false; rw [h.busy]
  · show P.e.w.ss.length = (P.busy.set s false).length; simp [h.plen]
  · show (P.e.kept.set c _).length = 6; simp [h.klen]
  · rw [hg] at hd
    by_cases e : c = d
    · rw [if_pos e] at hd; cases hd
    · rw [if_neg e] at hd; exact h.hold d s' hd
  · rw [hg] at hn
    rw [ho]
    by_cases e : c = d
    · subst e
      rw [if_pos rfl]
      show H.e.at c = _
      rw [h.hold c s hs]
      have := hx.idle h0
      have := hx.tx (by omega)
      cases hy : P.e.w.at s
      simp_all
    · rw [if_neg e] at hn ⊢
      exact h.bare d hd hn
  · by_cases e : s = s'
    · subst e; exact h0
    · refine h.free s' hl (fun d hd => hn d ?_)
      rw [hg, if_neg (fun e' => e (by rw [← e', hs] at hd; injection hd))]; exact hd
theorem Alike.proc (h : Alike P H) (hP : MOk mode P) {c : Nat} (hc : c < 6) (hr : readyB mode (P.get c) = true) : Alike (P.proc poolO mode c) (H.proc houseO mode c) := by
  have hc' : c < P.cl.length := by rw [hP.n6]; exact hc
  have hn := proc_line hP hr
  obtain ⟨r, l, hw, hs⟩ := ready_wait hr
  have t1 : Alike (P.set c { P.get c with wait := l }) (H.set c { P.get c with wait := l }) := h.turn hc' rfl
  have m1 : MOk mode (P.set c { P.get c with wait := l }) := hP.turn hc (fun q hq => hP.fine c q (by rw [hw]; exact List.mem_cons_of_mem _ hq)) rfl (fun hl => absurd hl hn)
  unfold Mach.proc
  rw [h.get]
  simp only [hw]
  by_cases hf : refB mode r = true
  · rw [if_pos hf, if_pos hf]
    have := h.state hP hc
    rw [h.get] at this
    rw [this]
    exact t1.tell _ _ _
  · rw [if_neg hf, if_neg hf]
    have hsv : (P.get c).srv.isSome = true := by rw [Bool.or_eq_true] at hs; exact hs.resolve_right hf
    obtain ⟨s, hs⟩ := Option.isSome_iff_exists.1 hsv
    have hk : checkE r.k r.key r.val = 0 := by
      rcases hP.fine c r (by rw [hw]; exact List.mem_cons_self) with e | e
      · exact absurd (by rw [e]; rfl) hf
      · exact e
    have hs1 : ((P.set c { P.get c with wait := l }).get c).srv = some s := by rw [get_set hc', if_pos rfl]; exact hs
    rw [show (P.get c).srv.getD 0 = s by rw [hs]; rfl]
    generalize hxp : poolO.exec P.e c s r = xp
    generalize hxh : houseO.exec H.e c s r = xh
    have hq := t1.exec m1 hs1 hk (P' := { P.set c { P.get c with wait := l } with e := xp.1, deeds := P.deeds ++ [⟨c, r, xp.2.1, xp.2.2⟩] }) (H' := { H.set c { P.get c with wait := l } with e := xh.1, deeds := P.deeds ++ [⟨c, r, xp.2.1, xp.2.2⟩] })
      (by show xp.1 = (poolO.exec P.e c s r).1; rw [hxp]) (by show xh.1 = (houseO.exec H.e c s r).1; rw [hxh]) rfl rfl rfl rfl rfl rfl t1.sent rfl
    have hx2 : xp.2 = xh.2 := by have := hq.2; rw [← hxp, ← hxh]; exact this
    have t2 := hq.1
    rw [← hx2, ← h.deeds]
    have t3 := t2.tell c xp.2.1 xp.2.2
    have m3 : MOk mode (Mach.tell { P.set c { P.get c with wait := l } with e := xp.1, deeds := P.deeds ++ [⟨c, r, xp.2.1, xp.2.2⟩] } c xp.2.1 xp.2.2) := m1.same rfl rfl rfl (by simp [Mach.tell, Mach.set, hP.s6])
    by_cases hm : mode ≠ 1 ∧ xp.2.2 = 0
    · rw [if_pos hm, if_pos hm]
      refine t3.release m3 (by show ((P.set c { P.get c with wait := l }).get c).srv = _; exact hs1) ?_
      show (xp.1.w.at s).st = 0
      rw [← hm.2, ← hxp]; rfl
    · rw [if_neg hm, if_neg hm]; exact t3
theorem Alike.enq (h : Alike P H) : Alike P.enq H.enq := by
  have e : enqL H = enqL P := by funext l c; unfold enqL; rw [h.get]
  have e2 : P.enq.line = H.enq.line := by unfold Mach.enq; simp only; rw [e, h.line]
  exact ⟨h.cl, h.busy, e2, h.sent, h.deeds, h.rows, h.plen, h.hlen, h.klen, h.okP, h.okH, h.hold, h.bare, h.free⟩
theorem Alike.assign (h : Alike P H) (hP : MOk mode P) : (P.assign poolO).1 = (H.assign houseO).1 ∧ Alike (P.assign poolO).2 (H.assign houseO).2 := by
  unfold Mach.assign
  rw [← h.line, ← h.busy]
  cases hl : P.line with
  | nil => exact ⟨rfl, h⟩
  | cons c l =>
    simp only
    by_cases hb : P.busy.idxOf false < P.busy.length
    · rw [if_pos hb, if_pos hb]
      refine ⟨rfl, ?_⟩
      obtain ⟨hc, hs, hw, hr⟩ := hP.line c (by rw [hl]; exact List.mem_cons_self)
      have hc' : c < P.cl.length := by rw [hP.n6]; exact hc
      have hfree : P.busy[P.busy.idxOf false]? = some false := idx_free hb
      generalize hs0 : P.busy.idxOf false = s at *
      have hns : ∀ d, (P.get d).srv ≠ some s := fun d hd => by rw [hP.srv d s hd] at hfree; cases hfree
      have ls : s < P.e.w.ss.length := by rw [h.plen]; exact hb
      have h0 := h.free s ls hns
      have hbare := h.bare c hc hs
      have okc := sess_at h.okH (i := c) (by rw [h.hlen]; exact hc)
      rw [hbare] at okc
      have hre := restore_ok h.okP ls h0 okc.set okc.prep
      have hg : ∀ (q : Mach PE) d, q.cl = P.cl.set c { P.get c with srv := some s } → q.get d = if c = d then { P.get c with srv := some s } else P.get d := fun q d hq => by unfold Mach.get; rw [hq]; exact get_cl hc'
      have hek : poolO.grant P.e c s = ⟨P.e.w.put s ⟨0, (P.e.of c).1, (P.e.of c).2, [], []⟩, P.e.kept⟩ := by
        show (⟨restoreW P.e.w s (P.e.of c), P.e.kept⟩ : PE) = _
        rw [hre]
      refine ⟨?_, ?_, rfl, h.sent, h.deeds, ?_, ?_, h.hlen, ?_, ?_, h.okH, fun d s' hd => ?_, fun d hd hn => ?_, fun s' hl' hn => ?_⟩
      · show P.cl.set c _ = H.cl.set c _; rw [h.cl, h.get]
      · show P.busy.set s true = P.busy.set s true; rfl
      · show (poolO.grant P.e c s).w.rows = H.e.rows; rw [hek]; exact h.rows
      · show (poolO.grant P.e c s).w.ss.length = (P.busy.set s true).length; rw [hek, List.length_set]; show (P.e.w.put s _).ss.length = _; rw [wput_len]; exact h.plen
      · show (poolO.grant P.e c s).kept.length = 6; rw [hek]; exact h.klen
      · show WorldOk (poolO.grant P.e c s).w
        rw [hek]
        exact wput_ok h.okP ls okc (fun p hp => by cases hp)
      · rw [hg _ d rfl] at hd
        show H.e.at d = (poolO.grant P.e c s).w.at s'
        rw [hek]
        show H.e.at d = (⟨P.e.w.rows, P.e.w.ss.set s _⟩ : Wd).at s'
        rw [set_at ls]
        by_cases e : c = d
        · subst e
          rw [if_pos rfl] at hd
          injection hd with hd
          rw [if_pos hd]; exact hbare
        · rw [if_neg e] at hd
          rw [if_neg (fun e' => hns d (by rw [e']; exact hd))]
          exact h.hold d s' hd
      · rw [hg _ d rfl] at hn
        by_cases e : c = d
        · rw [if_pos e] at hn; cases hn
        · rw [if_neg e] at hn
          show H.e.at d = ⟨0, ((poolO.grant P.e c s).of d).1, ((poolO.grant P.e c s).of d).2, [], []⟩
          rw [hek]
          exact h.bare d hd hn
      · show ((poolO.grant P.e c s).w.at s').st = 0
        have hl'' : s' < (poolO.grant P.e c s).w.ss.length := hl'
        rw [hek] at hl'' ⊢
        have hl''' : s' < P.e.w.ss.length := by have : s' < (P.e.w.put s _).ss.length := hl''; rw [wput_len] at this; exact this
        show ((⟨P.e.w.rows, P.e.w.ss.set s _⟩ : Wd).at s').st = 0
        rw [set_at ls, if_neg (fun e => hn c (by rw [hg _ c rfl, if_pos rfl, e]))]
        exact h.free s' hl''' (fun d hd => hn d (by rw [hg _ d rfl, if_neg (fun e => by rw [← e, hs] at hd; cases hd)]; exact hd))
    · rw [if_neg hb, if_neg hb]; exact ⟨rfl, h⟩
theorem Alike.first (h : Alike P H) : H.firstR mode = P.firstR mode := by
  have e : (fun c => readyB mode (H.get c)) = (fun c => readyB mode (P.get c)) := by funext c; rw [h.get]
  unfold Mach.firstR; rw [e]
theorem Alike.step (h : Alike P H) (hP : MOk mode P) : (P.step poolO mode).1 = (H.step houseO mode).1 ∧ Alike (P.step poolO mode).2 (H.step houseO mode).2 := by
  unfold Mach.step
  rw [h.first]
  cases hf : P.firstR mode with
  | some c =>
    obtain ⟨hc, hr⟩ := first_some hf
    exact ⟨rfl, h.proc hP hc hr⟩
  | none => exact h.enq.assign (hP.enq hf)
theorem Alike.mu (h : Alike P H) : H.mu = P.mu := by unfold Mach.mu; rw [h.cl]
theorem Alike.iter (h : Alike P H) (hP : MOk mode P) (n : Nat) : Alike (P.iter poolO mode n) (H.iter houseO mode n) := by
  induction n generalizing P H with
  | zero => exact h
  | succ n ih =>
    have hs := h.step hP
    unfold Mach.iter
    rw [← hs.1]
    cases ht : (P.step poolO mode).1 with
    | true => simp only [if_true]; exact ih hs.2 (hP.step (o := poolO)).1
    | false => simpa using hs.2
theorem Alike.all (h : Alike P H) (hP : MOk mode P) : Alike (P.all poolO mode) (H.all houseO mode) := by
  unfold Mach.all; rw [h.mu]; exact h.iter hP _
theorem zero_ok : SessOk Sess.zero := ⟨Int.le_refl _, (by show (0 : Int) ≤ 2; decide), pairsB_nil _ _, pairsB_nil _ _, pairsB_nil _ _, pairsB_nil _ _, fun _ => rfl, fun _ => rfl⟩
theorem Alike.leave (h : Alike P H) (hP : MOk mode P) {c : Nat} (hc : c < 6) : Alike (P.leave poolO c) (H.leave houseO c) := by
  have hc' : c < P.cl.length := by rw [hP.n6]; exact hc
  have hcH : c < H.e.ss.length := by rw [h.hlen]; exact hc
  have hg : ∀ d, (P.leave poolO c).get d = if c = d then Cl.new else P.get d := fun d => get_set (m := P) hc'
  have eH : ∀ d, (H.leave houseO c).e.at d = if c = d then Sess.zero else H.e.at d := fun d => set_at (W := H.e) hcH _ _ _
  have hk : ∀ (k : List (PL × PL)) d, k = P.e.kept.set c ([], []) → k.getD d ([], []) = if c = d then ([], []) else P.e.of d := fun k d hk => by
    rw [hk, getD_set]
    by_cases e : c = d
    · rw [if_pos e, if_pos ⟨e, by rw [h.klen]; exact hc⟩]
    · rw [if_neg e, if_neg (fun hh => e hh.1)]; rfl
  have okH' : WorldOk (H.leave houseO c).e := wput_ok h.okH hcH zero_ok (fun p hp => by cases hp)
  have e1 : (P.leave poolO c).cl = (H.leave houseO c).cl := by show P.cl.set c _ = H.cl.set c _; rw [h.cl]
  have e2 : (P.leave poolO c).busy = (H.leave houseO c).busy := by unfold Mach.leave; simp only; rw [h.get, h.busy]
  have e3 : (P.leave poolO c).line = (H.leave houseO c).line := by unfold Mach.leave; simp only; rw [h.line]
  have hlen : (H.leave houseO c).e.ss.length = 6 := by show (H.e.put c _).ss.length = 6; rw [wput_len]; exact h.hlen
  cases hx : (P.get c).srv with
  | none =>
    have ee : (P.leave poolO c).e = ⟨P.e.w, P.e.kept.set c ([], [])⟩ := by show poolO.leave P.e c (P.get c).srv = _; rw [hx]; rfl
    have eb : (P.leave poolO c).busy = P.busy := by unfold Mach.leave; simp only; rw [hx]
    refine ⟨e1, e2, e3, h.sent, h.deeds, by rw [ee]; exact h.rows, by rw [ee, eb]; exact h.plen, hlen, by rw [ee]; simp [h.klen], by rw [ee]; exact h.okP, okH', fun d s hd => ?_, fun d hd hn => ?_, fun s hl hn => ?_⟩
    · rw [hg] at hd
      by_cases e : c = d
      · rw [if_pos e] at hd; cases hd
      · rw [if_neg e] at hd
        rw [ee, eH, if_neg e]; exact h.hold d s hd
    · rw [hg] at hn
      rw [eH]
      show _ = (⟨0, ((P.leave poolO c).e.kept.getD d ([], [])).1, ((P.leave poolO c).e.kept.getD d ([], [])).2, [], []⟩ : Sess)
      rw [hk _ d (by rw [ee])]
      by_cases e : c = d
      · rw [if_pos e, if_pos e]; rfl
      · rw [if_neg e] at hn ⊢; rw [if_neg e]; exact h.bare d hd hn
    · rw [ee] at hl ⊢
      refine h.free s hl (fun d hd => hn d ?_)
      rw [hg, if_neg (fun e => by rw [← e, hx] at hd; cases hd)]; exact hd
  | some s =>
    obtain ⟨l1, l2⟩ := h.srvlt hP hx
    have ee : (P.leave poolO c).e = ⟨if (P.e.w.at s).st ≠ 0 then (doM P.e.w s 3 ⟨#[]⟩ ⟨#[]⟩).1 else P.e.w, P.e.kept.set c ([], [])⟩ := by show poolO.leave P.e c (P.get c).srv = _; rw [hx]; rfl
    have eb : (P.leave poolO c).busy = P.busy.set s false := by unfold Mach.leave; simp only; rw [hx]
    have hsx := sess_at h.okP l1
    have hroll : ∃ x : Sess, (if (P.e.w.at s).st ≠ 0 then (doM P.e.w s 3 ⟨#[]⟩ ⟨#[]⟩).1 else P.e.w) = P.e.w.put s x ∧ x.st = 0 ∧ SessOk x ∧ x.wr = [] := by
      by_cases h0 : (P.e.w.at s).st ≠ 0
      · rw [if_pos h0]
        refine ⟨{ P.e.w.at s with st := 0, set := (P.e.w.at s).sav, sav := [], wr := [] }, ?_, rfl, ⟨Int.le_refl _, (by show (0 : Int) ≤ 2; decide), hsx.sav, hsx.prep, pairsB_nil _ _, pairsB_nil _ _, fun _ => rfl, fun _ => rfl⟩, rfl⟩
        unfold doM didM did1
        simp [h0, ok']
      · rw [if_neg h0]
        have h0 : (P.e.w.at s).st = 0 := Classical.byContradiction h0
        exact ⟨P.e.w.at s, (put_self l1).symm, h0, hsx, hsx.tx (by omega)⟩
    obtain ⟨x, hxe, hx0, hxo, hxw⟩ := hroll
    rw [hxe] at ee
    have okw : WorldOk (P.e.w.put s x) := wput_ok h.okP l1 hxo (fun p hp => by rw [hxw] at hp; cases hp)
    refine ⟨e1, e2, e3, h.sent, h.deeds, by rw [ee]; exact h.rows, by rw [ee, eb]; show (P.e.w.put s x).ss.length = _; rw [wput_len, List.length_set]; exact h.plen, hlen, by rw [ee]; simp [h.klen], by rw [ee]; exact okw, okH', fun d s' hd => ?_, fun d hd hn => ?_, fun s' hl hn => ?_⟩
    · rw [hg] at hd
      by_cases e : c = d
      · rw [if_pos e] at hd; cases hd
      · rw [if_neg e] at hd
        rw [ee, eH, if_neg e]
        show H.e.at d = (⟨P.e.w.rows, P.e.w.ss.set s x⟩ : Wd).at s'
        rw [set_at l1, if_neg (fun e' => e (hP.inj c d s hx (by rw [e']; exact hd)))]
        exact h.hold d s' hd
    · rw [hg] at hn
      rw [eH]
      show _ = (⟨0, ((P.leave poolO c).e.kept.getD d ([], [])).1, ((P.leave poolO c).e.kept.getD d ([], [])).2, [], []⟩ : Sess)
      rw [hk _ d (by rw [ee])]
      by_cases e : c = d
      · rw [if_pos e, if_pos e]; rfl
      · rw [if_neg e] at hn ⊢; rw [if_neg e]; exact h.bare d hd hn
    · rw [ee] at hl ⊢
      show ((⟨P.e.w.rows, P.e.w.ss.set s x⟩ : Wd).at s').st = 0
      rw [set_at l1]
      by_cases e : s = s'
      · rw [if_pos e]; exact hx0
      · rw [if_neg e]
        refine h.free s' (by have : s' < (P.e.w.put s x).ss.length := hl; rw [wput_len] at this; exact this) (fun d hd => hn d ?_)
        rw [hg, if_neg (fun e' => e (by rw [← e', hx] at hd; injection hd))]; exact hd
theorem Alike.feed (h : Alike P H) (hP : MOk mode P) {c : Nat} (hc : c < 6) (n : Nat) : Alike (P.feed poolO mode n c) (H.feed houseO mode n c) := by
  induction n generalizing P H with
  | zero => exact h
  | succ n ih =>
    have hc' : c < P.cl.length := by rw [hP.n6]; exact hc
    unfold Mach.feed
    rw [h.get]
    cases hp : pull (P.get c).bytes with
    | none => exact h
    | some q =>
      obtain ⟨k, t, j⟩ := q
      simp only
      split
      · exact (h.all hP).leave hP.all hc
      · refine ih (h.turn hc' rfl) (hP.turn hc (fine_app (fun q hq => hP.fine c q hq) (reqOf_fine k t)) rfl fun hl => ⟨by simp, ?_⟩)
        obtain ⟨_, _, h3, h4⟩ := hP.line c hl
        exact ready_app h3 h4
theorem Alike.deliver (h : Alike P H) (hP : MOk mode P) {c : Nat} (hc : c < 6) (d : ByteArray) : Alike (P.deliver poolO mode c d) (H.deliver houseO mode c d) := by
  unfold Mach.deliver
  rw [h.get]
  exact (h.turn (x := { P.get c with bytes := (P.get c).bytes ++ d }) (by rw [hP.n6]; exact hc) rfl).feed (hP.bytes hc _) hc _
theorem Alike.act (h : Alike P H) (hP : MOk mode P) {a : Act} (ha : actE a = 0) : Alike (P.act poolO mode a) (H.act houseO mode a) := by
  have hc : a.c.toNat < 6 := by
    unfold actE at ha
    split at ha
    · cases ha
    split at ha
    · cases ha
    omega
  unfold Mach.act
  split
  · exact (h.deliver hP hc _).all (hP.deliver hc _)
  · exact (h.leave hP hc).all (hP.leave hc)
theorem Alike.run (h : Alike P H) (hP : MOk mode P) {l : List Act} (hl : actsE l = 0) : Alike (P.run poolO mode l) (H.run houseO mode l) := by
  induction l generalizing P H with
  | nil => exact h
  | cons a l ih => exact ih (h.act hP (actsE_cons hl).1) (hP.act (actsE_cons hl).1) (actsE_cons hl).2
end
theorem zeros_at (rows : PL) (n i : Nat) : (⟨rows, List.replicate n Sess.zero⟩ : Wd).at i = Sess.zero := by
  unfold Wd.at; simp only; rw [List.getD_eq_getElem?_getD, List.getElem?_replicate]; split <;> rfl
theorem zeros_ok {n : Nat} (h : n ≤ 8) : WorldOk ⟨[], List.replicate n Sess.zero⟩ := by
  have hz : ∀ i (hi : i < (List.replicate n Sess.zero).length), (List.replicate n Sess.zero)[i] = Sess.zero := fun i hi => by simp
  refine ⟨pairsB_nil _ _, by simpa using h, fun i hi => by rw [hz i hi]; exact zero_ok, fun i hi p hp => ?_, ?_⟩
  · rw [hz i hi] at hp; cases hp
  · have : (List.replicate n Sess.zero).flatMap (·.wr) = [] := by
      induction n with
      | zero => rfl
      | succ n ih => rw [List.replicate_succ, List.flatMap_cons, ih (by omega) (fun i hi => by simp)]; rfl
    show (allF [] ((List.replicate n Sess.zero).flatMap (·.wr))).length ≤ 100
    rw [this]; show 0 ≤ 100; omega
theorem start_alike {n : Nat} (h : n ≤ 8) : Alike (Mach.start (poolStart n) n) (Mach.start houseStart n) := by
  have hg : ∀ c, (Mach.start (poolStart n) n).get c = Cl.new := fun c => by
    unfold Mach.get Mach.start
    simp only
    rw [List.getD_eq_getElem?_getD, List.getElem?_replicate]
    split <;> rfl
  refine ⟨rfl, rfl, rfl, rfl, rfl, rfl, by simp [Mach.start, poolStart], by simp [Mach.start, houseStart], by simp [Mach.start, poolStart], zeros_ok h, zeros_ok (by omega), (fun c s hs => by rw [hg] at hs; cases hs), fun c hc _ => ?_, fun s hl _ => ?_⟩
  · show houseStart.at c = _
    unfold houseStart
    rw [zeros_at]
    have : (Mach.start (poolStart n) n).e.of c = ([], []) := by
      show (List.replicate 6 ([], [])).getD c ([], []) = _
      rw [List.getD_eq_getElem?_getD, List.getElem?_replicate]; split <;> rfl
    rw [this]; rfl
  · show ((⟨[], List.replicate n Sess.zero⟩ : Wd).at s).st = 0
    rw [zeros_at]; rfl
/-- P3.5: what the pool sends, does and leaves is what the house does -/
theorem pool_house {n : Nat} (h : n ≤ 8) (mode : Int) {l : List Act} (hl : actsE l = 0) : Alike ((Mach.start (poolStart n) n).run poolO mode l) ((Mach.start houseStart n).run houseO mode l) :=
  (start_alike h).run (start_ok _ _ _) hl

end Go.Proofs.YtpbaobmegomfpabDoor

/-
  Plain mathematics: the statements that raw numbers stand for.
-/
namespace Go.Proofs.YtpbaobmegomfpabDoor
open Go.RowKit
set_option linter.unusedVariables false

def keyL : Nat → List UInt8
  | 0 => [97]
  | 1 => [98]
  | 2 => [114, 111, 119]
  | _ => [110, 97, 109, 101]
def keyAt (a : Nat) : ByteArray := ⟨(keyL a).toArray⟩
/-- the digits of a number below 100 -/
def numL (n : Nat) : List UInt8 := if n < 10 then [UInt8.ofNat (48 + n)] else [UInt8.ofNat (48 + n / 10), UInt8.ofNat (48 + n % 10)]
def numAt (n : Nat) : ByteArray := ⟨(numL n).toArray⟩
def valAt (b : Nat) : ByteArray := ⟨#[118]⟩ ++ numAt b
def prepAt (c b : Nat) : ByteArray :=
  match c with
  | 0 => ⟨#[103, 101, 116, 32, 97]⟩
  | 1 => ⟨#[114, 101, 97, 100, 32, 114, 111, 119]⟩
  | 2 => ⟨#[112, 117, 116, 32, 114, 111, 119, 32]⟩ ++ valAt b
  | _ => ⟨#[112, 117, 116, 32, 98, 32, 120]⟩
/-- the kind, by a number below 24 (and one below 3) -/
def rawK (k c : Nat) : Nat :=
  if k < 3 then 1 else if k < 5 then 2 else if k = 5 then 3 else if k = 6 then (if c = 0 then 4 else 5) else if k < 10 then 6 else if k < 13 then 7 else if k < 15 then 8 else if k < 18 then 9 else if k < 22 then 10 else 11
def rawKey (k a : Nat) : ByteArray := if k < 7 then ⟨#[]⟩ else keyAt a
def rawVal (k b c : Nat) : ByteArray := if k < 15 then ⟨#[]⟩ else if k < 22 then valAt b else prepAt c b

theorem keyAt_name : ∀ a, a < 4 → bndB 97 122 8 (keyAt a) = true := by decide
theorem valAt_value : ∀ b, b < 12 → bndB 33 126 20 (valAt b) = true := by decide
theorem prepAt_prep : ∀ c, c < 4 → ∀ b, b < 12 → prepB (prepAt c b) = true := by decide +kernel
theorem raw_check {k a b c3 c4 : Nat} (hk : k < 24) (ha : a < 4) (hb : b < 12) (hc3 : c3 < 3) (hc4 : c4 < 4) : checkE (rawK k c3) (rawKey k a) (rawVal k b c4) = 0 := by
  have h1 := keyAt_name a ha
  have h2 := valAt_value b hb
  have h3 := prepAt_prep c4 hc4 b hb
  have hcase : k < 3 ∨ (¬ k < 3 ∧ k < 5) ∨ k = 5 ∨ k = 6 ∨ (6 < k ∧ k < 10) ∨ (¬ k < 10 ∧ k < 13) ∨ (¬ k < 13 ∧ k < 15) ∨ (¬ k < 15 ∧ k < 18) ∨ (¬ k < 18 ∧ k < 22) ∨ ¬ k < 22 := by omega
  have small : ∀ n : Nat, 1 ≤ n → n < 6 → checkE n ⟨#[]⟩ ⟨#[]⟩ = 0 := by
    intro n h1 h6
    refine checkE_ok (by omega) ?_ ?_
    · rw [keyB_no (by omega)]; exact empty_of rfl
    · unfold valueB; rw [if_neg (by omega), plainV_no (by omega)]; exact empty_of rfl
  rcases hcase with h | ⟨h, h'⟩ | h | h | ⟨h, h'⟩ | ⟨h, h'⟩ | ⟨h, h'⟩ | ⟨h, h'⟩ | ⟨h, h'⟩ | h
  · have e : rawK k c3 = 1 := by unfold rawK; rw [if_pos h]
    rw [e]; unfold rawKey rawVal; rw [if_pos (by omega), if_pos (by omega)]; exact small 1 (by omega) (by omega)
  · have e : rawK k c3 = 2 := by unfold rawK; rw [if_neg h, if_pos h']
    rw [e]; unfold rawKey rawVal; rw [if_pos (by omega), if_pos (by omega)]; exact small 2 (by omega) (by omega)
  · subst h
    exact small 3 (by omega) (by omega)
  · subst h
    have e : rawK 6 c3 = 4 ∨ rawK 6 c3 = 5 := by unfold rawK; simp; omega
    rcases e with e | e
    · rw [e]; exact small 4 (by omega) (by omega)
    · rw [e]; exact small 5 (by omega) (by omega)
  · have e : rawK k c3 = 6 := by unfold rawK; rw [if_neg (by omega), if_neg (by omega), if_neg (by omega), if_neg (by omega), if_pos h']
    rw [e]; unfold rawKey rawVal; rw [if_neg (by omega), if_pos (by omega)]
    exact checkE_ok (by omega) (by rw [keyB_yes (by omega)]; exact h1) (by unfold valueB; rw [if_neg (by omega), plainV_no (by omega)]; exact empty_of rfl)
  · have e : rawK k c3 = 7 := by unfold rawK; rw [if_neg (by omega), if_neg (by omega), if_neg (by omega), if_neg (by omega), if_neg h, if_pos h']
    rw [e]; unfold rawKey rawVal; rw [if_neg (by omega), if_pos (by omega)]
    exact checkE_ok (by omega) (by rw [keyB_yes (by omega)]; exact h1) (by unfold valueB; rw [if_neg (by omega), plainV_no (by omega)]; exact empty_of rfl)
  · have e : rawK k c3 = 8 := by unfold rawK; rw [if_neg (by omega), if_neg (by omega), if_neg (by omega), if_neg (by omega), if_neg (by omega), if_neg h, if_pos h']
    rw [e]; unfold rawKey rawVal; rw [if_neg (by omega), if_pos (by omega)]
    exact checkE_ok (by omega) (by rw [keyB_yes (by omega)]; exact h1) (by unfold valueB; rw [if_neg (by omega), plainV_no (by omega)]; exact empty_of rfl)
  · have e : rawK k c3 = 9 := by unfold rawK; rw [if_neg (by omega), if_neg (by omega), if_neg (by omega), if_neg (by omega), if_neg (by omega), if_neg (by omega), if_neg h, if_pos h']
    rw [e]; unfold rawKey rawVal; rw [if_neg (by omega), if_neg (by omega), if_pos (by omega)]
    exact checkE_ok (by omega) (by rw [keyB_yes (by omega)]; exact h1) (by unfold valueB; rw [if_neg (by omega), plainV_yes (by omega)]; exact h2)
  · have e : rawK k c3 = 10 := by unfold rawK; rw [if_neg (by omega), if_neg (by omega), if_neg (by omega), if_neg (by omega), if_neg (by omega), if_neg (by omega), if_neg (by omega), if_neg h, if_pos h']
    rw [e]; unfold rawKey rawVal; rw [if_neg (by omega), if_neg (by omega), if_pos (by omega)]
    exact checkE_ok (by omega) (by rw [keyB_yes (by omega)]; exact h1) (by unfold valueB; rw [if_neg (by omega), plainV_yes (by omega)]; exact h2)
  · have e : rawK k c3 = 11 := by unfold rawK; rw [if_neg (by omega), if_neg (by omega), if_neg (by omega), if_neg (by omega), if_neg (by omega), if_neg (by omega), if_neg (by omega), if_neg (by omega), if_neg h]
    rw [e]; unfold rawKey rawVal; rw [if_neg (by omega), if_neg (by omega), if_neg h]
    exact checkE_ok (by omega) (by rw [keyB_yes (by omega)]; exact h1) (by unfold valueB; rw [if_pos (by omega)]; exact h3)

end Go.Proofs.YtpbaobmegomfpabDoor

/-
  Plain mathematics: what statements do to other sessions, to rows, and in a transaction that is undone; statements of raw numbers.
-/
namespace Go.Proofs.YtpbaobmegomfpabDoor
open Go.RowKit
set_option linter.unusedVariables false

/-- raw numbers, and the statement that they stand for -/
structure Raw where
  kd : Int
  a : Int
  b : Int
  c : Int
def reqR (r : Raw) : Req := ⟨rawK (pickI r.kd 24).toNat (pickI r.c 3).toNat, rawKey (pickI r.kd 24).toNat (pickI r.a 4).toNat, rawVal (pickI r.kd 24).toNat (pickI r.b 12).toNat (pickI r.c 4).toNat⟩
def Req.ok (r : Req) : Prop := checkE r.k r.key r.val = 0
theorem pick_lt (n : Int) {m : Nat} (hm : 0 < m) : (pickI n m).toNat < m := by have := pickI_bd n (m := m) (by omega); omega
theorem reqR_ok (r : Raw) : (reqR r).ok := raw_check (pick_lt r.kd (m := 24) (by omega)) (pick_lt r.a (m := 4) (by omega)) (pick_lt r.b (m := 12) (by omega)) (pick_lt r.c (m := 3) (by omega)) (pick_lt r.c (m := 4) (by omega))
theorem small_ok {n : Int} (h1 : 1 ≤ n) (h6 : n < 6) : checkE n ⟨#[]⟩ ⟨#[]⟩ = 0 := by
  refine checkE_ok (by omega) ?_ ?_
  · rw [keyB_no (by omega)]; exact empty_of rfl
  · unfold valueB; rw [if_neg (by omega), plainV_no (by omega)]; exact empty_of rfl
def doR (W : Wd) (i : Nat) (r : Req) : Wd × Ans := doM W i r.k r.key r.val
theorem doR_ok {W : Wd} (h : WorldOk W) {i : Nat} (hi : i < W.ss.length) {r : Req} (hr : r.ok) : WorldOk (doR W i r).1 ∧ (doR W i r).1.ss.length = W.ss.length := doM_ok h hi hr
/-- statements in some sessions -/
def playM (n : Nat) (W : Wd) (l : List Raw) : Wd := l.foldl (fun W r => (doR W (pickI r.c n).toNat (reqR r)).1) W
theorem play_ok {n : Nat} (hn : 0 < n) : ∀ {l : List Raw} {W : Wd}, WorldOk W → W.ss.length = n → WorldOk (playM n W l) ∧ (playM n W l).ss.length = n
  | [], W, h, e => ⟨h, e⟩
  | r :: l, W, h, e => by
    have := doR_ok h (i := (pickI r.c n).toNat) (by rw [e]; exact pick_lt _ hn) (reqR_ok r)
    exact play_ok hn (l := l) this.1 (this.2.trans e)
/-- statements in one session -/
def saidM (i : Nat) (W : Wd) (l : List Req) : Wd := l.foldl (fun W r => (doR W i r).1) W
def lastM (i : Nat) : Wd → Ans × Int → List Req → Ans × Int
  | _, a, [] => a
  | W, _, r :: l => lastM i (doR W i r).1 ((doR W i r).2, ((doR W i r).1.at i).st) l

section
variable {W : Wd} {i : Nat}
theorem rows_ite {c : Prop} [Decidable c] {a b : Wd × Ans} (ha : c → a.1.rows = W.rows) (hb : ¬ c → b.1.rows = W.rows) : (if c then a else b).1.rows = W.rows := by
  by_cases h : c
  · rw [if_pos h]; exact ha h
  · rw [if_neg h]; exact hb h
theorem did1_rows {k : Int} {key val : ByteArray} (h2 : k = 2 → (W.at i).st ≠ 1) (h10 : k = 10 → (W.at i).st = 1) : (did1 W i k key val).1.rows = W.rows := by
  unfold did1
  simp only
  refine rows_ite (fun _ => rfl) fun _ => rows_ite (fun _ => rows_ite (fun _ => rfl) fun _ => rfl) fun _ => rows_ite (fun _ => rows_ite (fun _ => rfl) fun _ => rows_ite (fun h => absurd h.2 (h2 h.1)) fun _ => rfl) fun _ =>
    rows_ite (fun _ => rows_ite (fun _ => rfl) fun _ => rfl) fun _ => rows_ite (fun _ => rfl) fun _ => rows_ite (fun _ => rfl) fun _ => rows_ite (fun _ => rows_ite (fun _ => rfl) fun _ => rfl) fun _ => ?_
  refine rows_ite (fun hk => rows_ite (fun _ => rfl) fun _ => rows_ite (fun _ => rfl) fun _ => rows_ite (fun _ => rfl) fun hn => absurd (h10 hk) hn) fun _ => rows_ite (fun _ => rows_ite (fun _ => rfl) fun _ => rfl) fun _ => rfl
theorem doM_rows' (r : Wd × Ans) (h : r.1.rows = W.rows) : (if r.2.kind = 4 ∧ (r.1.at i).st = 1 then (r.1.put i { r.1.at i with st := 2, wr := [] }, r.2) else r).1.rows = W.rows := by
  split
  · exact h
  · exact h
/-- rows turn by a Put, an Exec or a Commit alone -/
theorem doR_rows {r : Req} (h2 : r.k ≠ 2) (h8 : r.k ≠ 8) (h10 : r.k ≠ 10) : (doR W i r).1.rows = W.rows := by
  refine doM_rows' _ ?_
  unfold didM
  rw [if_neg h8]
  exact did1_rows (fun h => absurd h h2) (fun h => absurd h h10)
/-- in a transaction no row turns but by a Commit -/
theorem doR_tx (h : WorldOk W) (hi : i < W.ss.length) (hst : (W.at i).st ≠ 0) {r : Req} (h2 : r.k ≠ 2) : (doR W i r).1.rows = W.rows := by
  have hs := sess_at h hi
  have hst' : (W.at i).st = 1 ∨ (W.at i).st = 2 := by have := hs.lo; have := hs.hi; omega
  refine doM_rows' _ ?_
  unfold didM
  refine rows_ite (fun _ => rows_ite (fun _ => rfl) fun hn => ?_) (fun _ => ?_)
  · cases ha : atL (W.at i).prep r.key with
    | none => rfl
    | some t =>
      have hp := prep_stmt hs.prep ha
      exact did1_rows (fun e => by omega) (fun _ => by omega)
  · rcases hst' with e | e
    · exact did1_rows (fun hh => absurd hh h2) (fun _ => e)
    · unfold did1
      simp only
      refine rows_ite (fun _ => rfl) fun hn => ?_
      have : r.k = 2 ∨ r.k = 3 := Classical.byContradiction fun hh => hn ⟨e, hh⟩
      have h3 : r.k = 3 := this.resolve_left h2
      rw [if_neg (by omega), if_pos this, if_neg (by omega), if_neg (by omega)]
      rfl
end

section
variable {W : Wd} {i : Nat}
/-- a transaction that goes on -/
structure InIt (W V : Wd) (i : Nat) : Prop where
  ok : WorldOk V
  len : V.ss.length = W.ss.length
  rows : V.rows = W.rows
  st : (V.at i).st ≠ 0
  sav : (V.at i).sav = (W.at i).set
theorem sav_ite {c : Prop} [Decidable c] {P : Wd × Ans → Prop} {a b : Wd × Ans} (ha : c → P a) (hb : ¬ c → P b) : P (if c then a else b) := by
  by_cases h : c
  · rw [if_pos h]; exact ha h
  · rw [if_neg h]; exact hb h
/-- neither Saved nor that a transaction goes on turns but by a Commit or a Rollback -/
def Stays (W : Wd) (i : Nat) (r : Wd × Ans) : Prop := (r.1.at i).st ≠ 0 ∧ (r.1.at i).sav = (W.at i).sav
theorem did1_stays (hi : i < W.ss.length) (hst : (W.at i).st ≠ 0) {k : Int} {key val : ByteArray} (h2 : k ≠ 2) (h3 : k ≠ 3) : Stays W i (did1 W i k key val) := by
  have same : ∀ a, Stays W i (W, a) := fun a => ⟨hst, rfl⟩
  have put : ∀ x a, x.st ≠ 0 → x.sav = (W.at i).sav → Stays W i (W.put i x, a) := fun x a h1 h2 => by
    unfold Stays; simp only; rw [wput_at hi]; exact ⟨h1, h2⟩
  unfold did1
  simp only
  refine sav_ite (fun _ => same _) fun _ => sav_ite (fun _ => sav_ite (fun h => absurd h hst) fun _ => same _) fun _ => sav_ite (fun h => absurd h (by omega)) fun _ => sav_ite (fun _ => sav_ite (fun h => absurd h hst) fun _ => same _) fun _ =>
    sav_ite (fun _ => same _) fun _ => sav_ite (fun _ => same _) fun _ => sav_ite (fun _ => sav_ite (fun _ => same _) fun _ => put _ _ hst rfl) fun _ => ?_
  refine sav_ite (fun _ => sav_ite (fun _ => same _) fun _ => sav_ite (fun _ => same _) fun _ => sav_ite (fun _ => put _ _ hst rfl) fun _ => ⟨hst, rfl⟩) fun _ => sav_ite (fun _ => sav_ite (fun _ => same _) fun _ => put _ _ hst rfl) fun _ => same _
theorem doR_stays (h : WorldOk W) (hi : i < W.ss.length) (hst : (W.at i).st ≠ 0) {r : Req} (h2 : r.k ≠ 2) (h3 : r.k ≠ 3) : Stays W i (doR W i r) := by
  have hs := sess_at h hi
  have hd : Stays W i (didM W i r.k r.key r.val) := by
    unfold didM
    refine sav_ite (fun _ => sav_ite (fun _ => ⟨hst, rfl⟩) fun _ => ?_) fun _ => did1_stays hi hst h2 h3
    cases ha : atL (W.at i).prep r.key with
    | none => exact ⟨hst, rfl⟩
    | some t =>
      have hp := prep_stmt hs.prep ha
      exact did1_stays hi hst (by omega) (by omega)
  unfold doR doM
  simp only
  refine sav_ite (fun hc => ?_) (fun _ => hd)
  have hl : i < (didM W i r.k r.key r.val).1.ss.length := by
    rcases Nat.lt_or_ge i (didM W i r.k r.key r.val).1.ss.length with h' | h'
    · exact h'
    · have := hc.2
      unfold Wd.at at this
      rw [List.getD_eq_getElem?_getD, List.getElem?_eq_none h'] at this
      cases this
  unfold Stays
  simp only
  rw [wput_at hl]
  exact ⟨by show (2 : Int) ≠ 0; decide, hd.2⟩
theorem InIt.step {V : Wd} (h : InIt W V i) (hi : i < W.ss.length) {r : Req} (hr : r.ok) (h2 : r.k ≠ 2) (h3 : r.k ≠ 3) : InIt W (doR V i r).1 i := by
  have hi' : i < V.ss.length := by rw [h.len]; exact hi
  have h1 := doR_ok h.ok hi' hr
  have h4 := doR_stays h.ok hi' h.st h2 h3
  exact ⟨h1.1, h1.2.trans h.len, (doR_tx h.ok hi' h.st h2).trans h.rows, h4.1, h4.2.trans h.sav⟩
/-- those that go on: no Commit, no Rollback -/
def keepR (l : List Raw) : List Raw := l.filter fun r => !(decide ((reqR r).k = 2) || decide ((reqR r).k = 3))
theorem InIt.said {V : Wd} (hi : i < W.ss.length) : ∀ {l : List Raw} {V : Wd}, InIt W V i → InIt W (saidM i V ((keepR l).map reqR)) i
  | [], V, h => h
  | r :: l, V, h => by
    unfold keepR
    rw [List.filter_cons]
    by_cases hc : (!(decide ((reqR r).k = 2) || decide ((reqR r).k = 3))) = true
    · rw [if_pos hc]
      rw [Bool.not_eq_true', Bool.or_eq_false_iff, decide_eq_false_iff_not, decide_eq_false_iff_not] at hc
      exact InIt.said (V := V) hi (l := l) (h.step hi (reqR_ok r) hc.1 hc.2)
    · rw [if_neg hc]; exact InIt.said (V := V) hi (l := l) h
theorem begin_in (h : WorldOk W) (hi : i < W.ss.length) (hst : (W.at i).st = 0) : InIt W (doR W i ⟨1, ⟨#[]⟩, ⟨#[]⟩⟩).1 i ∧ (doR W i ⟨1, ⟨#[]⟩, ⟨#[]⟩⟩).2 = ok' := by
  have e : doR W i ⟨1, ⟨#[]⟩, ⟨#[]⟩⟩ = (W.put i { W.at i with st := 1, sav := (W.at i).set }, ok') := by
    unfold doR doM didM did1
    simp [hst, ok']
  have hg := doR_ok h hi (r := ⟨1, ⟨#[]⟩, ⟨#[]⟩⟩) (small_ok (by decide) (by decide))
  rw [e] at hg
  rw [e]
  refine ⟨⟨hg.1, hg.2, rfl, ?_, ?_⟩, rfl⟩
  · rw [wput_at hi]; show (1 : Int) ≠ 0; decide
  · rw [wput_at hi]
/-- a Rollback, whatever was before, leaves the session Idle -/
theorem roll_idle (h : WorldOk W) (hi : i < W.ss.length) : ((doR W i ⟨3, ⟨#[]⟩, ⟨#[]⟩⟩).1.at i).st = 0 := by
  by_cases h0 : (W.at i).st = 0
  · have e : doR W i ⟨3, ⟨#[]⟩, ⟨#[]⟩⟩ = (W, no' tNoTx) := by
      unfold doR doM didM did1
      simp [h0, no']
    rw [e]; exact h0
  · have e : doR W i ⟨3, ⟨#[]⟩, ⟨#[]⟩⟩ = (W.put i { W.at i with st := 0, set := (W.at i).sav, sav := [], wr := [] }, ok') := by
      unfold doR doM didM did1
      simp [h0, ok']
    rw [e, wput_at hi]
/-- the end of a transaction that is undone -/
theorem InIt.undone {V : Wd} (h : InIt W V i) (hi : i < W.ss.length) {k : Int} (hk : k = 3 ∨ (k = 2 ∧ (V.at i).st = 2)) :
    (doR V i ⟨k, ⟨#[]⟩, ⟨#[]⟩⟩).2 = ok' ∧ ((doR V i ⟨k, ⟨#[]⟩, ⟨#[]⟩⟩).1.at i).st = 0 ∧ (doR V i ⟨k, ⟨#[]⟩, ⟨#[]⟩⟩).1.rows = W.rows ∧ ((doR V i ⟨k, ⟨#[]⟩, ⟨#[]⟩⟩).1.at i).set = (W.at i).set ∧ (doR V i ⟨k, ⟨#[]⟩, ⟨#[]⟩⟩).1.ss.length = W.ss.length := by
  have hi' : i < V.ss.length := by rw [h.len]; exact hi
  have h0 := h.st
  have e : doR V i ⟨k, ⟨#[]⟩, ⟨#[]⟩⟩ = (V.put i { V.at i with st := 0, set := (V.at i).sav, sav := [], wr := [] }, ok') := by
    rcases hk with rfl | ⟨rfl, h2⟩
    · unfold doR doM didM did1
      simp [h0, ok']
    · unfold doR doM didM did1
      simp [h2, ok']
  rw [e, wput_at hi']
  exact ⟨rfl, rfl, h.rows, h.sav, by rw [wput_len]; exact h.len⟩
theorem fail_two {V : Wd} (h : InIt W V i) (hi : i < W.ss.length) : InIt W (doR V i ⟨5, ⟨#[]⟩, ⟨#[]⟩⟩).1 i ∧ ((doR V i ⟨5, ⟨#[]⟩, ⟨#[]⟩⟩).1.at i).st = 2 := by
  have hi' : i < V.ss.length := by rw [h.len]; exact hi
  refine ⟨h.step hi (small_ok (by decide) (by decide)) (by show (5 : Int) ≠ 2; decide) (by show (5 : Int) ≠ 3; decide), ?_⟩
  have hs := sess_at h.ok hi'
  have h1 : (V.at i).st = 1 ∨ (V.at i).st = 2 := by have := hs.lo; have := hs.hi; have := h.st; omega
  rcases h1 with h1 | h1
  · have e : doR V i ⟨5, ⟨#[]⟩, ⟨#[]⟩⟩ = (V.put i { V.at i with st := 2, wr := [] }, no' tAsked) := by
      unfold doR doM didM did1
      simp [h1, no']
    rw [e, wput_at hi']
  · have e : doR V i ⟨5, ⟨#[]⟩, ⟨#[]⟩⟩ = (V, no' tFailed) := by
      unfold doR doM didM did1
      simp [h1, no']
    rw [e]; exact h1
/-- an Exec does what was prepared -/
theorem exec_same {key t : ByteArray} (ha : atL (W.at i).prep key = some t) (hst : (W.at i).st ≠ 2) {r : Req} (hr : r = ⟨kindN (cutA t), cutA (cutB t), cutB (cutB t)⟩) (h8 : r.k ≠ 8) : doR W i ⟨8, key, ⟨#[]⟩⟩ = doR W i r := by
  subst hr
  have e : didM W i 8 key ⟨#[]⟩ = didM W i (kindN (cutA t)) (cutA (cutB t)) (cutB (cutB t)) := by
    unfold didM
    rw [if_pos rfl, if_neg hst, ha, if_neg h8]
  unfold doR doM
  simp only [e]
end
end Go.Proofs.YtpbaobmegomfpabDoor

/-
  Slices of raw numbers: in memory, and from an argument's reading.
-/
namespace Go.Proofs.YtpbaobmegomfpabDoor
open Go.RowKit Go.ChangeShapes Go.WideShapes Go.Deep Go.Joins
set_option linter.unusedVariables false
set_option maxRecDepth 100000

/-- each of the four is a number of its kind -/
structure Raw.wf (r : Raw) : Prop where
  k : (Lit.int .i64 r.kd).wf = true
  a : (Lit.int .i64 r.a).wf = true
  b : (Lit.int .i64 r.b).wf = true
  c : (Lit.int .i64 r.c).wf = true
structure RLst (w : World) (B : Nat) (v : Value) (l : List Raw) : Prop where
  form : ∃ A c, v = .slice A l.length c ∧ l.length ≤ c
  bytes : l.length * 32 ≤ 140737488351232
  wf : ∀ r ∈ l, r.wf
  cells : 0 < l.length → ∃ b off c, v = .slice (some ⟨b, off, none⟩) l.length c ∧ b < B ∧
    ∀ i (h : i < l.length), w.cell? ⟨b, off + i * 4, none⟩ = some (.int .i64 l[i].kd) ∧ w.cell? ⟨b, off + i * 4 + 1, none⟩ = some (.int .i64 l[i].a) ∧ w.cell? ⟨b, off + i * 4 + 2, none⟩ = some (.int .i64 l[i].b) ∧ w.cell? ⟨b, off + i * 4 + 3, none⟩ = some (.int .i64 l[i].c)
theorem RLst.keep {w w' : World} {B B' : Nat} {v : Value} {l : List Raw} (h : RLst w B v l) (hB : B ≤ B') (hk : ∀ p : Addr, p.block < B → w'.cell? p = w.cell? p) : RLst w' B' v l := by
  refine ⟨h.form, h.bytes, h.wf, fun hn => ?_⟩
  obtain ⟨b, off, c, e, hb, hc⟩ := h.cells hn
  exact ⟨b, off, c, e, by omega, fun i hi => ⟨(hk _ hb).trans (hc i hi).1, (hk _ hb).trans (hc i hi).2.1, (hk _ hb).trans (hc i hi).2.2.1, (hk _ hb).trans (hc i hi).2.2.2⟩⟩
theorem RLst.step {w w' : World} {v : Value} {l : List Raw} (h : RLst w w.heap.size v l) (hb : Below w.heap.size w w') : RLst w' w'.heap.size v l := h.keep hb.size fun _ hp => hb.cell hp
theorem RLst.pt {w : World} {B n c : Nat} {A : Option Addr} {l : List Raw} (h : RLst w B (.slice A n c) l) {k : Nat} (hk : k < l.length) :
    ∃ b off, A = some ⟨b, off, none⟩ ∧ b < B ∧ w.cell? ⟨b, off + k * 4, none⟩ = some (.int .i64 l[k].kd) ∧ w.cell? ⟨b, off + k * 4 + 1, none⟩ = some (.int .i64 l[k].a) ∧ w.cell? ⟨b, off + k * 4 + 2, none⟩ = some (.int .i64 l[k].b) ∧ w.cell? ⟨b, off + k * 4 + 3, none⟩ = some (.int .i64 l[k].c) := by
  obtain ⟨b, off, c', e, hb, hc⟩ := h.cells (by omega)
  injection e with e1 e2 e3
  obtain ⟨h1, h2, h3, h4⟩ := hc k hk
  exact ⟨b, off, e1, hb, h1, h2, h3, h4⟩
section
variable {H : Type} {enc : TypeId × Value → H} {w : World} {base : Nat} {spare : Nat → Bool} {held : Bool}
theorem raw_cells {n : Nat} {cs : List Value} {x : DataW H × List MemPlace} (h : DataW.trod enc Tryd.prog w base spare held n 38 cs = some x) :
    ∃ r : Raw, cs = [.int .i64 r.kd, .int .i64 r.a, .int .i64 r.b, .int .i64 r.c] ∧ r.wf := by
  obtain ⟨xs, k, _, rfl, hl, hxl, hf⟩ := DataW.trod_struct Tryd.underlying38 h
  rw [show Tryd.prog.cellsOf 38 = 4 by kernel_rfl] at hl
  match xs, hxl, cs, hl with
  | [y0, y1, y2, y3], _, [c0, c1, c2, c3], _ =>
    have ei : Tryd.prog.cellsOf 3 = 1 := by kernel_rfl
    have g0 : DataW.trod enc Tryd.prog w base spare held k 3 ((([c0, c1, c2, c3] : List Value).drop 0).take (Tryd.prog.cellsOf 3)) = some y0 := hf 0 _ rfl
    have g1 : DataW.trod enc Tryd.prog w base spare held k 3 ((([c0, c1, c2, c3] : List Value).drop 1).take (Tryd.prog.cellsOf 3)) = some y1 := hf 1 _ rfl
    have g2 : DataW.trod enc Tryd.prog w base spare held k 3 ((([c0, c1, c2, c3] : List Value).drop 2).take (Tryd.prog.cellsOf 3)) = some y2 := hf 2 _ rfl
    have g3 : DataW.trod enc Tryd.prog w base spare held k 3 ((([c0, c1, c2, c3] : List Value).drop 3).take (Tryd.prog.cellsOf 3)) = some y3 := hf 3 _ rfl
    rw [ei] at g0 g1 g2 g3
    obtain ⟨n0, e0, _, w0⟩ := DataW.trod_int Tryd.underlying3 g0
    obtain ⟨n1, e1, _, w1⟩ := DataW.trod_int Tryd.underlying3 g1
    obtain ⟨n2, e2, _, w2⟩ := DataW.trod_int Tryd.underlying3 g2
    obtain ⟨n3, e3, _, w3⟩ := DataW.trod_int Tryd.underlying3 g3
    obtain rfl : c0 = .int .i64 n0 := by simpa using e0
    obtain rfl : c1 = .int .i64 n1 := by simpa using e1
    obtain rfl : c2 = .int .i64 n2 := by simpa using e2
    obtain rfl : c3 = .int .i64 n3 := by simpa using e3
    exact ⟨⟨n0, n1, n2, n3⟩, rfl, w0, w1, w2, w3⟩
theorem open_raws {r : Reach} {b0 : Nat} {v : Value} {d : DataW H} {p : List MemPlace} (hv : Value.okWide Tryd.prog w r b0 36 v) (h : DataW.Trod enc Tryd.prog w base spare held 36 v d p)
    (hz : ∀ n ∈ d.weights Tryd.prog 36, n ≤ reachBytes) : ∃ l : List Raw, RLst w w.heap.size v l := by
  obtain ⟨a0, len0, cap0, rfl⟩ := okWide_slice Tryd.underlying36 hv
  obtain ⟨fuel, hf⟩ := h
  rcases open_slice Tryd.underlying36 hf with ⟨hcs, hx⟩ | ⟨a, len, cap, m, n, D, Pl, hcs, hb, hl, hm, hmm, hx, hi⟩
  · have hv : (Value.slice a0 len0 cap0) = .slice none 0 0 := by simpa [Value.cells] using hcs
    rw [hv]
    exact ⟨[], ⟨none, 0, rfl, Nat.le_refl _⟩, by simp, by simp, fun h => absurd h (by simp)⟩
  · have hv : (Value.slice a0 len0 cap0) = .slice (some a) len cap := by simpa [Value.cells] using hcs
    rw [hv]
    have hlm : len ≤ m := by rw [hmm]; split <;> omega
    have each : ∀ i, i < len → ∃ s : Raw, (∀ j, j < 4 → w.cell? (a.add (i * 4 + j)) = [Value.int .i64 s.kd, .int .i64 s.a, .int .i64 s.b, .int .i64 s.c][j]?) ∧ s.wf := by
      intro i hil
      obtain ⟨cs, hc, ht⟩ := hi i (by omega)
      rw [show Tryd.prog.cellsOf 38 = 4 by kernel_rfl] at hc
      obtain ⟨_, _, hcell⟩ := World.cells?_some hc
      obtain ⟨s, rfl, hwf⟩ := raw_cells ht
      refine ⟨s, fun j hj => ?_, hwf⟩
      have := hcell j hj
      rwa [Go.Deep.add_add] at this
    have : Inhabited Raw := ⟨⟨0, 0, 0, 0⟩⟩
    obtain ⟨f, hf'⟩ := choose_lt each
    have hd : d = .slice ((List.range len).map D) ((List.range (m - len)).map fun j => D (len + j)) := by injection hx
    have hby := hz ((len + (m - len)) * 32) (by
      rw [hd]
      simp only [DataW.weights, Tryd.underlying36, List.mem_cons, List.length_map, List.length_range]
      exact .inl (by rw [show Tryd.prog.bytesOf 38 = 32 by kernel_rfl]))
    have hll : ((List.range len).map f).length = len := by simp
    refine ⟨(List.range len).map f, ⟨some a, cap, by rw [hll], by rw [hll]; exact hl⟩, by rw [hll]; unfold reachBytes at hby; omega, fun s hs => ?_, fun hn => ?_⟩
    · obtain ⟨i, hil, rfl⟩ := List.mem_map.1 hs
      exact (hf' i (List.mem_range.1 hil)).2
    · rw [hll] at hn
      have h00 := (hf' 0 hn).1 0 (by omega)
      rw [show a.add (0 * 4 + 0) = a from rfl] at h00
      have ha := spot_none (h00.trans rfl)
      refine ⟨a.block, a.off, cap, by rw [hll, ← ha], World.block_lt_of_cell? w a (h00.trans rfl), fun i hil => ?_⟩
      rw [hll] at hil
      have hc := (hf' i hil).1
      rw [ha] at hc
      simp only [add_plain] at hc
      simp only [List.getElem_map, List.getElem_range]
      exact ⟨hc 0 (by omega), hc 1 (by omega), hc 2 (by omega), hc 3 (by omega)⟩
end
end Go.Proofs.YtpbaobmegomfpabDoor

/-
  strconv.Itoa of a number below 100.
-/
namespace Go.Proofs.YtpbaobmegomfpabDoor
open Go.RowKit
set_option linter.unusedVariables false
set_option maxRecDepth 100000

set_option maxRecDepth 100000 in
set_option maxHeartbeats 1000000 in
theorem small_any (n : Nat) (w : World) (h : n < 12) :
    Calls Tryd.prog 69 #[.int .i64 n] w fun e w' => e = .returned (.string (numAt n)) ∧ w = w' := by
  obtain rfl | rfl | rfl | rfl | rfl | rfl | rfl | rfl | rfl | rfl | rfl | rfl : n = 0 ∨ n = 1 ∨ n = 2 ∨ n = 3 ∨ n = 4 ∨ n = 5 ∨ n = 6 ∨ n = 7 ∨ n = 8 ∨ n = 9 ∨ n = 10 ∨ n = 11 := by omega
  all_goals
    go_enter Tryd.func69, Tryd.ntmps69
    go_wp2
    go_ret
    exact ⟨rfl, rfl⟩

set_option maxHeartbeats 400000 in
theorem formatInt_any (n : Nat) (w : World) (h : n < 12) :
    Calls Tryd.prog 55 #[.int .i64 n, .int .i64 10] w fun e w' => e = .returned (.string (numAt n)) ∧ w = w' := by
  have d1 : decide ((n : Int) < 100) = true := decide_eq_true (by omega)
  go_enter Tryd.func55, Tryd.ntmps55
  go_wp2_with fail
  refine (small_any n _ h).mono ?_
  rintro e w1 ⟨rfl, rfl⟩
  go_wp2
  go_ret
  exact ⟨rfl, rfl⟩

theorem itoa_any (n : Nat) (w : World) (h : n < 12) :
    Calls Tryd.prog 19 #[.int .i64 n] w fun e w' => e = .returned (.string (numAt n)) ∧ w = w' := by
  go_enter Tryd.func19, Tryd.ntmps19
  go_wp2_with fail
  go_in
  go_wp2_with fail
  refine (formatInt_any n _ h).mono ?_
  rintro e w1 ⟨rfl, rfl⟩
  go_wp2
  go_ret
  exact ⟨rfl, rfl⟩

end Go.Proofs.YtpbaobmegomfpabDoor

/-
  The walk of tillermankeep.picked.
-/
namespace Go.Proofs.YtpbaobmegomfpabDoor
open Go.RowKit
set_option linter.unusedVariables false
set_option maxRecDepth 100000

theorem i64_bd {a : Int} (h : (Lit.int .i64 a).wf = true) : -9223372036854775808 ≤ a ∧ a ≤ 9223372036854775807 := by
  simpa [Lit.wf, IntKind.min, IntKind.max, IntKind.signed, IntKind.bits] using h

set_option maxHeartbeats 400000 in
theorem picked_any (n m : Int) (w : World) (hn : -9223372036854775808 ≤ n) (hn2 : n ≤ 9223372036854775807) (hm : 0 < m) (hm2 : m ≤ 9223372036854775807) :
    Calls Tryd.prog 14 #[.int .i64 n, .int .i64 m] w fun e w' => e = .returned (.int .i64 (pickI n m)) ∧ w = w' := by
  have hm0 : (m == 0) = false := beq_eq_false_iff_ne.2 (by omega)
  by_cases h : n < 0
  · have hp := Lib.hid (pickI_neg (m := m) h)
    have h1 : 0 ≤ -(n + 1) := by omega
    go_enter Tryd.func14, Tryd.ntmps14
    go_wp2
    go_ret
    exact ⟨ret_int (by rw [hp.out, ← Int.neg_tmod, Int.tmod_eq_emod_of_nonneg h1]), rfl⟩
  · have hp := Lib.hid (pickI_pos (m := m) h)
    go_enter Tryd.func14, Tryd.ntmps14
    go_wp2
    go_ret
    exact ⟨by rw [hp.out]; rfl, rfl⟩

end Go.Proofs.YtpbaobmegomfpabDoor

/-
  The walk of tillermankeep.Stmt.
-/
namespace Go.Proofs.YtpbaobmegomfpabDoor
open Go.RowKit
set_option linter.unusedVariables false
set_option maxRecDepth 100000

theorem pick_some (n : Int) (m : Nat) (hm : 0 < m) : ∃ p : Nat, pickI n m = (p : Int) ∧ p < m := by
  have := pickI_bd n (m := (m : Int)) (by omega)
  exact ⟨(pickI n m).toNat, by omega, by omega⟩
theorem key_get : ∀ (x : Nat) (h : x < [Value.string ⟨#[97]⟩, .string ⟨#[98]⟩, .string ⟨#[114, 111, 119]⟩, .string ⟨#[110, 97, 109, 101]⟩].length), [Value.string ⟨#[97]⟩, .string ⟨#[98]⟩, .string ⟨#[114, 111, 119]⟩, .string ⟨#[110, 97, 109, 101]⟩][x] = .string (keyAt x)
  | 0, _ => rfl
  | 1, _ => rfl
  | 2, _ => rfl
  | 3, _ => rfl
theorem kind_get : ∀ (x : Nat) (h : x < [Value.int .i64 4, .int .i64 5, .int .i64 5].length), [Value.int .i64 4, .int .i64 5, .int .i64 5][x] = .int .i64 (rawK 6 x)
  | 0, _ => rfl
  | 1, _ => rfl
  | 2, _ => rfl
theorem prep_get (b : Nat) : ∀ (x : Nat) (h : x < [Value.string ⟨#[103, 101, 116, 32, 97]⟩, .string ⟨#[114, 101, 97, 100, 32, 114, 111, 119]⟩, .string (⟨#[112, 117, 116, 32, 114, 111, 119, 32]⟩ ++ valAt b), .string ⟨#[112, 117, 116, 32, 98, 32, 120]⟩].length),
    [Value.string ⟨#[103, 101, 116, 32, 97]⟩, .string ⟨#[114, 101, 97, 100, 32, 114, 111, 119]⟩, .string (⟨#[112, 117, 116, 32, 114, 111, 119, 32]⟩ ++ valAt b), .string ⟨#[112, 117, 116, 32, 98, 32, 120]⟩][x] = .string (prepAt x b)
  | 0, _ => rfl
  | 1, _ => rfl
  | 2, _ => rfl
  | 3, _ => rfl
theorem numAt_size (n : Nat) : (numAt n).size ≤ 2 := by
  unfold numAt numL
  split
  · show ([UInt8.ofNat (48 + n)] : List UInt8).toArray.size ≤ 2; simp
  · show ([UInt8.ofNat (48 + n / 10), UInt8.ofNat (48 + n % 10)] : List UInt8).toArray.size ≤ 2; simp
theorem valAt_size (n : Nat) : (valAt n).size ≤ 3 := by
  have := numAt_size n
  unfold valAt; rw [ByteArray.size_append]; show 1 + _ ≤ 3; omega

set_option maxHeartbeats 1000000 in
theorem stmt_1 (kd a b c : Int) (k x y z3 z4 : Nat) (w : World) (hk1 : -9223372036854775808 ≤ kd) (hk2 : kd ≤ 9223372036854775807) (ha1 : -9223372036854775808 ≤ a) (ha2 : a ≤ 9223372036854775807) (hb1 : -9223372036854775808 ≤ b) (hb2 : b ≤ 9223372036854775807) (hc1 : -9223372036854775808 ≤ c) (hc2 : c ≤ 9223372036854775807)
    (Hk : Hid (pickI kd 24 = (k : Int))) (Hx : Hid (pickI a 4 = (x : Int))) (Hy : Hid (pickI b 12 = (y : Int))) (H3 : Hid (pickI c 3 = (z3 : Int))) (H4 : Hid (pickI c 4 = (z4 : Int))) (hk24 : k < 24) (hx4 : x < 4) (hy12 : y < 12) (hz3 : z3 < 3) (hz4 : z4 < 4) (h : k < 3) :
    Calls Tryd.prog 15 #[.agg #[.int .i64 kd, .int .i64 a, .int .i64 b, .int .i64 c]] w fun e w' => e = .returned (.agg #[.int .i64 1, .string ⟨#[]⟩, .string ⟨#[]⟩]) ∧ Below w.heap.size w w' := by
  have hns := numAt_size y
  go_enter Tryd.func15, Tryd.ntmps15
  go_wp2_with fail
  refine (picked_any a 4 _ ha1 ha2 (by omega) (by omega)).mono ?_
  rw [Hx.out]
  rintro e w1 ⟨rfl, rfl⟩
  go_wp2_with fail
  rw [key_get]
  refine (picked_any b 12 _ hb1 hb2 (by omega) (by omega)).mono ?_
  rw [Hy.out]
  rintro e w2 ⟨rfl, rfl⟩
  go_wp2_with fail
  refine (itoa_any y _ hy12).mono ?_
  rintro e w3 ⟨rfl, rfl⟩
  go_wp2_with fail
  rw [show (⟨#[118]⟩ : ByteArray) ++ numAt y = valAt y from rfl]
  have hvs := valAt_size y
  clear hns
  refine (picked_any kd 24 _ hk1 hk2 (by omega) (by omega)).mono ?_
  rw [Hk.out]
  rintro e w4 ⟨rfl, rfl⟩
  go_wp2
  refine bodyPost_ret (v := .agg #[.int .i64 1, .string ⟨#[]⟩, .string ⟨#[]⟩]) (by simp [results, Tryd.results15, go_sem]) rfl ⟨rfl, ?_⟩
  repeat' (first | exact Below.refl _ _ | assumption | with_reducible refine below_drewN ?_ _ | with_reducible refine Below.drew ?_ | with_reducible refine Below.setCell ?_ ?_ _ | with_reducible refine Below.alloc ?_ ?_ _ | (simp; done) | (simp; omega))

set_option maxHeartbeats 1000000 in
theorem stmt_2 (kd a b c : Int) (k x y z3 z4 : Nat) (w : World) (hk1 : -9223372036854775808 ≤ kd) (hk2 : kd ≤ 9223372036854775807) (ha1 : -9223372036854775808 ≤ a) (ha2 : a ≤ 9223372036854775807) (hb1 : -9223372036854775808 ≤ b) (hb2 : b ≤ 9223372036854775807) (hc1 : -9223372036854775808 ≤ c) (hc2 : c ≤ 9223372036854775807)
    (Hk : Hid (pickI kd 24 = (k : Int))) (Hx : Hid (pickI a 4 = (x : Int))) (Hy : Hid (pickI b 12 = (y : Int))) (H3 : Hid (pickI c 3 = (z3 : Int))) (H4 : Hid (pickI c 4 = (z4 : Int))) (hk24 : k < 24) (hx4 : x < 4) (hy12 : y < 12) (hz3 : z3 < 3) (hz4 : z4 < 4) (h : ¬ k < 3 ∧ k < 5) :
    Calls Tryd.prog 15 #[.agg #[.int .i64 kd, .int .i64 a, .int .i64 b, .int .i64 c]] w fun e w' => e = .returned (.agg #[.int .i64 2, .string ⟨#[]⟩, .string ⟨#[]⟩]) ∧ Below w.heap.size w w' := by
  obtain ⟨h, h'⟩ := h
  have hns := numAt_size y
  go_enter Tryd.func15, Tryd.ntmps15
  go_wp2_with fail
  refine (picked_any a 4 _ ha1 ha2 (by omega) (by omega)).mono ?_
  rw [Hx.out]
  rintro e w1 ⟨rfl, rfl⟩
  go_wp2_with fail
  rw [key_get]
  refine (picked_any b 12 _ hb1 hb2 (by omega) (by omega)).mono ?_
  rw [Hy.out]
  rintro e w2 ⟨rfl, rfl⟩
  go_wp2_with fail
  refine (itoa_any y _ hy12).mono ?_
  rintro e w3 ⟨rfl, rfl⟩
  go_wp2_with fail
  rw [show (⟨#[118]⟩ : ByteArray) ++ numAt y = valAt y from rfl]
  have hvs := valAt_size y
  clear hns
  refine (picked_any kd 24 _ hk1 hk2 (by omega) (by omega)).mono ?_
  rw [Hk.out]
  rintro e w4 ⟨rfl, rfl⟩
  go_wp2
  refine bodyPost_ret (v := .agg #[.int .i64 2, .string ⟨#[]⟩, .string ⟨#[]⟩]) (by simp [results, Tryd.results15, go_sem]) rfl ⟨rfl, ?_⟩
  repeat' (first | exact Below.refl _ _ | assumption | with_reducible refine below_drewN ?_ _ | with_reducible refine Below.drew ?_ | with_reducible refine Below.setCell ?_ ?_ _ | with_reducible refine Below.alloc ?_ ?_ _ | (simp; done) | (simp; omega))

set_option maxHeartbeats 1000000 in
theorem stmt_3 (kd a b c : Int) (k x y z3 z4 : Nat) (w : World) (hk1 : -9223372036854775808 ≤ kd) (hk2 : kd ≤ 9223372036854775807) (ha1 : -9223372036854775808 ≤ a) (ha2 : a ≤ 9223372036854775807) (hb1 : -9223372036854775808 ≤ b) (hb2 : b ≤ 9223372036854775807) (hc1 : -9223372036854775808 ≤ c) (hc2 : c ≤ 9223372036854775807)
    (Hk : Hid (pickI kd 24 = (k : Int))) (Hx : Hid (pickI a 4 = (x : Int))) (Hy : Hid (pickI b 12 = (y : Int))) (H3 : Hid (pickI c 3 = (z3 : Int))) (H4 : Hid (pickI c 4 = (z4 : Int))) (hk24 : k < 24) (hx4 : x < 4) (hy12 : y < 12) (hz3 : z3 < 3) (hz4 : z4 < 4) (h : k = 5) :
    Calls Tryd.prog 15 #[.agg #[.int .i64 kd, .int .i64 a, .int .i64 b, .int .i64 c]] w fun e w' => e = .returned (.agg #[.int .i64 3, .string ⟨#[]⟩, .string ⟨#[]⟩]) ∧ Below w.heap.size w w' := by
  subst h
  have hns := numAt_size y
  go_enter Tryd.func15, Tryd.ntmps15
  go_wp2_with fail
  refine (picked_any a 4 _ ha1 ha2 (by omega) (by omega)).mono ?_
  rw [Hx.out]
  rintro e w1 ⟨rfl, rfl⟩
  go_wp2_with fail
  rw [key_get]
  refine (picked_any b 12 _ hb1 hb2 (by omega) (by omega)).mono ?_
  rw [Hy.out]
  rintro e w2 ⟨rfl, rfl⟩
  go_wp2_with fail
  refine (itoa_any y _ hy12).mono ?_
  rintro e w3 ⟨rfl, rfl⟩
  go_wp2_with fail
  rw [show (⟨#[118]⟩ : ByteArray) ++ numAt y = valAt y from rfl]
  have hvs := valAt_size y
  clear hns
  refine (picked_any kd 24 _ hk1 hk2 (by omega) (by omega)).mono ?_
  rw [Hk.out]
  rintro e w4 ⟨rfl, rfl⟩
  go_wp2
  refine bodyPost_ret (v := .agg #[.int .i64 3, .string ⟨#[]⟩, .string ⟨#[]⟩]) (by simp [results, Tryd.results15, go_sem]) rfl ⟨rfl, ?_⟩
  repeat' (first | exact Below.refl _ _ | assumption | with_reducible refine below_drewN ?_ _ | with_reducible refine Below.drew ?_ | with_reducible refine Below.setCell ?_ ?_ _ | with_reducible refine Below.alloc ?_ ?_ _ | (simp; done) | (simp; omega))

set_option maxHeartbeats 1000000 in
theorem stmt_4 (kd a b c : Int) (k x y z3 z4 : Nat) (w : World) (hk1 : -9223372036854775808 ≤ kd) (hk2 : kd ≤ 9223372036854775807) (ha1 : -9223372036854775808 ≤ a) (ha2 : a ≤ 9223372036854775807) (hb1 : -9223372036854775808 ≤ b) (hb2 : b ≤ 9223372036854775807) (hc1 : -9223372036854775808 ≤ c) (hc2 : c ≤ 9223372036854775807)
    (Hk : Hid (pickI kd 24 = (k : Int))) (Hx : Hid (pickI a 4 = (x : Int))) (Hy : Hid (pickI b 12 = (y : Int))) (H3 : Hid (pickI c 3 = (z3 : Int))) (H4 : Hid (pickI c 4 = (z4 : Int))) (hk24 : k < 24) (hx4 : x < 4) (hy12 : y < 12) (hz3 : z3 < 3) (hz4 : z4 < 4) (h : k = 6) :
    Calls Tryd.prog 15 #[.agg #[.int .i64 kd, .int .i64 a, .int .i64 b, .int .i64 c]] w fun e w' => e = .returned (.agg #[.int .i64 (rawK 6 z3), .string ⟨#[]⟩, .string ⟨#[]⟩]) ∧ Below w.heap.size w w' := by
  subst h
  have hg := kind_get z3
  have hns := numAt_size y
  go_enter Tryd.func15, Tryd.ntmps15
  go_wp2_with fail
  refine (picked_any a 4 _ ha1 ha2 (by omega) (by omega)).mono ?_
  rw [Hx.out]
  rintro e w1 ⟨rfl, rfl⟩
  go_wp2_with fail
  rw [key_get]
  refine (picked_any b 12 _ hb1 hb2 (by omega) (by omega)).mono ?_
  rw [Hy.out]
  rintro e w2 ⟨rfl, rfl⟩
  go_wp2_with fail
  refine (itoa_any y _ hy12).mono ?_
  rintro e w3 ⟨rfl, rfl⟩
  go_wp2_with fail
  rw [show (⟨#[118]⟩ : ByteArray) ++ numAt y = valAt y from rfl]
  have hvs := valAt_size y
  clear hns
  refine (picked_any kd 24 _ hk1 hk2 (by omega) (by omega)).mono ?_
  rw [Hk.out]
  rintro e w4 ⟨rfl, rfl⟩
  go_wp2_with fail
  refine (picked_any c 3 _ hc1 hc2 (by omega) (by omega)).mono ?_
  rw [H3.out]
  rintro e w5 ⟨rfl, rfl⟩
  go_wp2_with fail
  go_wp2
  refine bodyPost_ret (v := .agg #[.int .i64 (rawK 6 z3), .string ⟨#[]⟩, .string ⟨#[]⟩]) (by simp [results, Tryd.results15, go_sem]) rfl ⟨rfl, ?_⟩
  repeat' (first | exact Below.refl _ _ | assumption | with_reducible refine below_drewN ?_ _ | with_reducible refine Below.drew ?_ | with_reducible refine Below.setCell ?_ ?_ _ | with_reducible refine Below.alloc ?_ ?_ _ | (simp; done) | (simp; omega))

set_option maxHeartbeats 1000000 in
theorem stmt_6 (kd a b c : Int) (k x y z3 z4 : Nat) (w : World) (hk1 : -9223372036854775808 ≤ kd) (hk2 : kd ≤ 9223372036854775807) (ha1 : -9223372036854775808 ≤ a) (ha2 : a ≤ 9223372036854775807) (hb1 : -9223372036854775808 ≤ b) (hb2 : b ≤ 9223372036854775807) (hc1 : -9223372036854775808 ≤ c) (hc2 : c ≤ 9223372036854775807)
    (Hk : Hid (pickI kd 24 = (k : Int))) (Hx : Hid (pickI a 4 = (x : Int))) (Hy : Hid (pickI b 12 = (y : Int))) (H3 : Hid (pickI c 3 = (z3 : Int))) (H4 : Hid (pickI c 4 = (z4 : Int))) (hk24 : k < 24) (hx4 : x < 4) (hy12 : y < 12) (hz3 : z3 < 3) (hz4 : z4 < 4) (h : 6 < k ∧ k < 10) :
    Calls Tryd.prog 15 #[.agg #[.int .i64 kd, .int .i64 a, .int .i64 b, .int .i64 c]] w fun e w' => e = .returned (.agg #[.int .i64 6, .string (keyAt x), .string ⟨#[]⟩]) ∧ Below w.heap.size w w' := by
  obtain ⟨h, h'⟩ := h
  have n5 : ((k : Int) == 5) = false := beq_eq_false_iff_ne.2 (by omega)
  have n6 : ((k : Int) == 6) = false := beq_eq_false_iff_ne.2 (by omega)
  have hns := numAt_size y
  go_enter Tryd.func15, Tryd.ntmps15
  go_wp2_with fail
  refine (picked_any a 4 _ ha1 ha2 (by omega) (by omega)).mono ?_
  rw [Hx.out]
  rintro e w1 ⟨rfl, rfl⟩
  go_wp2_with fail
  rw [key_get]
  refine (picked_any b 12 _ hb1 hb2 (by omega) (by omega)).mono ?_
  rw [Hy.out]
  rintro e w2 ⟨rfl, rfl⟩
  go_wp2_with fail
  refine (itoa_any y _ hy12).mono ?_
  rintro e w3 ⟨rfl, rfl⟩
  go_wp2_with fail
  rw [show (⟨#[118]⟩ : ByteArray) ++ numAt y = valAt y from rfl]
  have hvs := valAt_size y
  clear hns
  refine (picked_any kd 24 _ hk1 hk2 (by omega) (by omega)).mono ?_
  rw [Hk.out]
  rintro e w4 ⟨rfl, rfl⟩
  go_wp2
  refine bodyPost_ret (v := .agg #[.int .i64 6, .string (keyAt x), .string ⟨#[]⟩]) (by simp [results, Tryd.results15, go_sem]) rfl ⟨rfl, ?_⟩
  repeat' (first | exact Below.refl _ _ | assumption | with_reducible refine below_drewN ?_ _ | with_reducible refine Below.drew ?_ | with_reducible refine Below.setCell ?_ ?_ _ | with_reducible refine Below.alloc ?_ ?_ _ | (simp; done) | (simp; omega))

set_option maxHeartbeats 1000000 in
theorem stmt_7 (kd a b c : Int) (k x y z3 z4 : Nat) (w : World) (hk1 : -9223372036854775808 ≤ kd) (hk2 : kd ≤ 9223372036854775807) (ha1 : -9223372036854775808 ≤ a) (ha2 : a ≤ 9223372036854775807) (hb1 : -9223372036854775808 ≤ b) (hb2 : b ≤ 9223372036854775807) (hc1 : -9223372036854775808 ≤ c) (hc2 : c ≤ 9223372036854775807)
    (Hk : Hid (pickI kd 24 = (k : Int))) (Hx : Hid (pickI a 4 = (x : Int))) (Hy : Hid (pickI b 12 = (y : Int))) (H3 : Hid (pickI c 3 = (z3 : Int))) (H4 : Hid (pickI c 4 = (z4 : Int))) (hk24 : k < 24) (hx4 : x < 4) (hy12 : y < 12) (hz3 : z3 < 3) (hz4 : z4 < 4) (h : ¬ k < 10 ∧ k < 13) :
    Calls Tryd.prog 15 #[.agg #[.int .i64 kd, .int .i64 a, .int .i64 b, .int .i64 c]] w fun e w' => e = .returned (.agg #[.int .i64 7, .string (keyAt x), .string ⟨#[]⟩]) ∧ Below w.heap.size w w' := by
  obtain ⟨h, h'⟩ := h
  have n5 : ((k : Int) == 5) = false := beq_eq_false_iff_ne.2 (by omega)
  have n6 : ((k : Int) == 6) = false := beq_eq_false_iff_ne.2 (by omega)
  have hns := numAt_size y
  go_enter Tryd.func15, Tryd.ntmps15
  go_wp2_with fail
  refine (picked_any a 4 _ ha1 ha2 (by omega) (by omega)).mono ?_
  rw [Hx.out]
  rintro e w1 ⟨rfl, rfl⟩
  go_wp2_with fail
  rw [key_get]
  refine (picked_any b 12 _ hb1 hb2 (by omega) (by omega)).mono ?_
  rw [Hy.out]
  rintro e w2 ⟨rfl, rfl⟩
  go_wp2_with fail
  refine (itoa_any y _ hy12).mono ?_
  rintro e w3 ⟨rfl, rfl⟩
  go_wp2_with fail
  rw [show (⟨#[118]⟩ : ByteArray) ++ numAt y = valAt y from rfl]
  have hvs := valAt_size y
  clear hns
  refine (picked_any kd 24 _ hk1 hk2 (by omega) (by omega)).mono ?_
  rw [Hk.out]
  rintro e w4 ⟨rfl, rfl⟩
  go_wp2
  refine bodyPost_ret (v := .agg #[.int .i64 7, .string (keyAt x), .string ⟨#[]⟩]) (by simp [results, Tryd.results15, go_sem]) rfl ⟨rfl, ?_⟩
  repeat' (first | exact Below.refl _ _ | assumption | with_reducible refine below_drewN ?_ _ | with_reducible refine Below.drew ?_ | with_reducible refine Below.setCell ?_ ?_ _ | with_reducible refine Below.alloc ?_ ?_ _ | (simp; done) | (simp; omega))

set_option maxHeartbeats 1000000 in
theorem stmt_8 (kd a b c : Int) (k x y z3 z4 : Nat) (w : World) (hk1 : -9223372036854775808 ≤ kd) (hk2 : kd ≤ 9223372036854775807) (ha1 : -9223372036854775808 ≤ a) (ha2 : a ≤ 9223372036854775807) (hb1 : -9223372036854775808 ≤ b) (hb2 : b ≤ 9223372036854775807) (hc1 : -9223372036854775808 ≤ c) (hc2 : c ≤ 9223372036854775807)
    (Hk : Hid (pickI kd 24 = (k : Int))) (Hx : Hid (pickI a 4 = (x : Int))) (Hy : Hid (pickI b 12 = (y : Int))) (H3 : Hid (pickI c 3 = (z3 : Int))) (H4 : Hid (pickI c 4 = (z4 : Int))) (hk24 : k < 24) (hx4 : x < 4) (hy12 : y < 12) (hz3 : z3 < 3) (hz4 : z4 < 4) (h : ¬ k < 13 ∧ k < 15) :
    Calls Tryd.prog 15 #[.agg #[.int .i64 kd, .int .i64 a, .int .i64 b, .int .i64 c]] w fun e w' => e = .returned (.agg #[.int .i64 8, .string (keyAt x), .string ⟨#[]⟩]) ∧ Below w.heap.size w w' := by
  obtain ⟨h, h'⟩ := h
  have n5 : ((k : Int) == 5) = false := beq_eq_false_iff_ne.2 (by omega)
  have n6 : ((k : Int) == 6) = false := beq_eq_false_iff_ne.2 (by omega)
  have hns := numAt_size y
  go_enter Tryd.func15, Tryd.ntmps15
  go_wp2_with fail
  refine (picked_any a 4 _ ha1 ha2 (by omega) (by omega)).mono ?_
  rw [Hx.out]
  rintro e w1 ⟨rfl, rfl⟩
  go_wp2_with fail
  rw [key_get]
  refine (picked_any b 12 _ hb1 hb2 (by omega) (by omega)).mono ?_
  rw [Hy.out]
  rintro e w2 ⟨rfl, rfl⟩
  go_wp2_with fail
  refine (itoa_any y _ hy12).mono ?_
  rintro e w3 ⟨rfl, rfl⟩
  go_wp2_with fail
  rw [show (⟨#[118]⟩ : ByteArray) ++ numAt y = valAt y from rfl]
  have hvs := valAt_size y
  clear hns
  refine (picked_any kd 24 _ hk1 hk2 (by omega) (by omega)).mono ?_
  rw [Hk.out]
  rintro e w4 ⟨rfl, rfl⟩
  go_wp2
  refine bodyPost_ret (v := .agg #[.int .i64 8, .string (keyAt x), .string ⟨#[]⟩]) (by simp [results, Tryd.results15, go_sem]) rfl ⟨rfl, ?_⟩
  repeat' (first | exact Below.refl _ _ | assumption | with_reducible refine below_drewN ?_ _ | with_reducible refine Below.drew ?_ | with_reducible refine Below.setCell ?_ ?_ _ | with_reducible refine Below.alloc ?_ ?_ _ | (simp; done) | (simp; omega))

set_option maxHeartbeats 1000000 in
theorem stmt_9 (kd a b c : Int) (k x y z3 z4 : Nat) (w : World) (hk1 : -9223372036854775808 ≤ kd) (hk2 : kd ≤ 9223372036854775807) (ha1 : -9223372036854775808 ≤ a) (ha2 : a ≤ 9223372036854775807) (hb1 : -9223372036854775808 ≤ b) (hb2 : b ≤ 9223372036854775807) (hc1 : -9223372036854775808 ≤ c) (hc2 : c ≤ 9223372036854775807)
    (Hk : Hid (pickI kd 24 = (k : Int))) (Hx : Hid (pickI a 4 = (x : Int))) (Hy : Hid (pickI b 12 = (y : Int))) (H3 : Hid (pickI c 3 = (z3 : Int))) (H4 : Hid (pickI c 4 = (z4 : Int))) (hk24 : k < 24) (hx4 : x < 4) (hy12 : y < 12) (hz3 : z3 < 3) (hz4 : z4 < 4) (h : ¬ k < 15 ∧ k < 18) :
    Calls Tryd.prog 15 #[.agg #[.int .i64 kd, .int .i64 a, .int .i64 b, .int .i64 c]] w fun e w' => e = .returned (.agg #[.int .i64 9, .string (keyAt x), .string (valAt y)]) ∧ Below w.heap.size w w' := by
  obtain ⟨h, h'⟩ := h
  have n5 : ((k : Int) == 5) = false := beq_eq_false_iff_ne.2 (by omega)
  have n6 : ((k : Int) == 6) = false := beq_eq_false_iff_ne.2 (by omega)
  have hns := numAt_size y
  go_enter Tryd.func15, Tryd.ntmps15
  go_wp2_with fail
  refine (picked_any a 4 _ ha1 ha2 (by omega) (by omega)).mono ?_
  rw [Hx.out]
  rintro e w1 ⟨rfl, rfl⟩
  go_wp2_with fail
  rw [key_get]
  refine (picked_any b 12 _ hb1 hb2 (by omega) (by omega)).mono ?_
  rw [Hy.out]
  rintro e w2 ⟨rfl, rfl⟩
  go_wp2_with fail
  refine (itoa_any y _ hy12).mono ?_
  rintro e w3 ⟨rfl, rfl⟩
  go_wp2_with fail
  rw [show (⟨#[118]⟩ : ByteArray) ++ numAt y = valAt y from rfl]
  have hvs := valAt_size y
  clear hns
  refine (picked_any kd 24 _ hk1 hk2 (by omega) (by omega)).mono ?_
  rw [Hk.out]
  rintro e w4 ⟨rfl, rfl⟩
  go_wp2
  refine bodyPost_ret (v := .agg #[.int .i64 9, .string (keyAt x), .string (valAt y)]) (by simp [results, Tryd.results15, go_sem]) rfl ⟨rfl, ?_⟩
  repeat' (first | exact Below.refl _ _ | assumption | with_reducible refine below_drewN ?_ _ | with_reducible refine Below.drew ?_ | with_reducible refine Below.setCell ?_ ?_ _ | with_reducible refine Below.alloc ?_ ?_ _ | (simp; done) | (simp; omega))

set_option maxHeartbeats 1000000 in
theorem stmt_10 (kd a b c : Int) (k x y z3 z4 : Nat) (w : World) (hk1 : -9223372036854775808 ≤ kd) (hk2 : kd ≤ 9223372036854775807) (ha1 : -9223372036854775808 ≤ a) (ha2 : a ≤ 9223372036854775807) (hb1 : -9223372036854775808 ≤ b) (hb2 : b ≤ 9223372036854775807) (hc1 : -9223372036854775808 ≤ c) (hc2 : c ≤ 9223372036854775807)
    (Hk : Hid (pickI kd 24 = (k : Int))) (Hx : Hid (pickI a 4 = (x : Int))) (Hy : Hid (pickI b 12 = (y : Int))) (H3 : Hid (pickI c 3 = (z3 : Int))) (H4 : Hid (pickI c 4 = (z4 : Int))) (hk24 : k < 24) (hx4 : x < 4) (hy12 : y < 12) (hz3 : z3 < 3) (hz4 : z4 < 4) (h : ¬ k < 18 ∧ k < 22) :
    Calls Tryd.prog 15 #[.agg #[.int .i64 kd, .int .i64 a, .int .i64 b, .int .i64 c]] w fun e w' => e = .returned (.agg #[.int .i64 10, .string (keyAt x), .string (valAt y)]) ∧ Below w.heap.size w w' := by
  obtain ⟨h, h'⟩ := h
  have n5 : ((k : Int) == 5) = false := beq_eq_false_iff_ne.2 (by omega)
  have n6 : ((k : Int) == 6) = false := beq_eq_false_iff_ne.2 (by omega)
  have hns := numAt_size y
  go_enter Tryd.func15, Tryd.ntmps15
  go_wp2_with fail
  refine (picked_any a 4 _ ha1 ha2 (by omega) (by omega)).mono ?_
  rw [Hx.out]
  rintro e w1 ⟨rfl, rfl⟩
  go_wp2_with fail
  rw [key_get]
  refine (picked_any b 12 _ hb1 hb2 (by omega) (by omega)).mono ?_
  rw [Hy.out]
  rintro e w2 ⟨rfl, rfl⟩
  go_wp2_with fail
  refine (itoa_any y _ hy12).mono ?_
  rintro e w3 ⟨rfl, rfl⟩
  go_wp2_with fail
  rw [show (⟨#[118]⟩ : ByteArray) ++ numAt y = valAt y from rfl]
  have hvs := valAt_size y
  clear hns
  refine (picked_any kd 24 _ hk1 hk2 (by omega) (by omega)).mono ?_
  rw [Hk.out]
  rintro e w4 ⟨rfl, rfl⟩
  go_wp2
  refine bodyPost_ret (v := .agg #[.int .i64 10, .string (keyAt x), .string (valAt y)]) (by simp [results, Tryd.results15, go_sem]) rfl ⟨rfl, ?_⟩
  repeat' (first | exact Below.refl _ _ | assumption | with_reducible refine below_drewN ?_ _ | with_reducible refine Below.drew ?_ | with_reducible refine Below.setCell ?_ ?_ _ | with_reducible refine Below.alloc ?_ ?_ _ | (simp; done) | (simp; omega))

set_option maxHeartbeats 1000000 in
theorem stmt_11 (kd a b c : Int) (k x y z3 z4 : Nat) (w : World) (hk1 : -9223372036854775808 ≤ kd) (hk2 : kd ≤ 9223372036854775807) (ha1 : -9223372036854775808 ≤ a) (ha2 : a ≤ 9223372036854775807) (hb1 : -9223372036854775808 ≤ b) (hb2 : b ≤ 9223372036854775807) (hc1 : -9223372036854775808 ≤ c) (hc2 : c ≤ 9223372036854775807)
    (Hk : Hid (pickI kd 24 = (k : Int))) (Hx : Hid (pickI a 4 = (x : Int))) (Hy : Hid (pickI b 12 = (y : Int))) (H3 : Hid (pickI c 3 = (z3 : Int))) (H4 : Hid (pickI c 4 = (z4 : Int))) (hk24 : k < 24) (hx4 : x < 4) (hy12 : y < 12) (hz3 : z3 < 3) (hz4 : z4 < 4) (h : ¬ k < 22) :
    Calls Tryd.prog 15 #[.agg #[.int .i64 kd, .int .i64 a, .int .i64 b, .int .i64 c]] w fun e w' => e = .returned (.agg #[.int .i64 11, .string (keyAt x), .string (prepAt z4 y)]) ∧ Below w.heap.size w w' := by
  have n5 : ((k : Int) == 5) = false := beq_eq_false_iff_ne.2 (by omega)
  have n6 : ((k : Int) == 6) = false := beq_eq_false_iff_ne.2 (by omega)
  have hg := prep_get y z4
  have hns := numAt_size y
  go_enter Tryd.func15, Tryd.ntmps15
  go_wp2_with fail
  refine (picked_any a 4 _ ha1 ha2 (by omega) (by omega)).mono ?_
  rw [Hx.out]
  rintro e w1 ⟨rfl, rfl⟩
  go_wp2_with fail
  rw [key_get]
  refine (picked_any b 12 _ hb1 hb2 (by omega) (by omega)).mono ?_
  rw [Hy.out]
  rintro e w2 ⟨rfl, rfl⟩
  go_wp2_with fail
  refine (itoa_any y _ hy12).mono ?_
  rintro e w3 ⟨rfl, rfl⟩
  go_wp2_with fail
  rw [show (⟨#[118]⟩ : ByteArray) ++ numAt y = valAt y from rfl]
  have hvs := valAt_size y
  clear hns
  refine (picked_any kd 24 _ hk1 hk2 (by omega) (by omega)).mono ?_
  rw [Hk.out]
  rintro e w4 ⟨rfl, rfl⟩
  go_wp2_with fail
  refine (picked_any c 4 _ hc1 hc2 (by omega) (by omega)).mono ?_
  rw [H4.out]
  rintro e w5 ⟨rfl, rfl⟩
  go_wp2
  refine bodyPost_ret (v := .agg #[.int .i64 11, .string (keyAt x), .string (prepAt z4 y)]) (by simp [results, Tryd.results15, go_sem]) rfl ⟨rfl, ?_⟩
  repeat' (first | exact Below.refl _ _ | assumption | with_reducible refine below_drewN ?_ _ | with_reducible refine Below.drew ?_ | with_reducible refine Below.setCell ?_ ?_ _ | with_reducible refine Below.alloc ?_ ?_ _ | (simp; done) | (simp; omega))

theorem stmt_any (kd a b c : Int) (w : World) (hk : (Lit.int .i64 kd).wf = true) (ha : (Lit.int .i64 a).wf = true) (hb : (Lit.int .i64 b).wf = true) (hc : (Lit.int .i64 c).wf = true) :
    Calls Tryd.prog 15 #[.agg #[.int .i64 kd, .int .i64 a, .int .i64 b, .int .i64 c]] w fun e w' =>
      e = .returned (.agg #[.int .i64 (rawK (pickI kd 24).toNat (pickI c 3).toNat), .string (rawKey (pickI kd 24).toNat (pickI a 4).toNat), .string (rawVal (pickI kd 24).toNat (pickI b 12).toNat (pickI c 4).toNat)]) ∧ Below w.heap.size w w' := by
  obtain ⟨hk1, hk2⟩ := i64_bd hk
  obtain ⟨ha1, ha2⟩ := i64_bd ha
  obtain ⟨hb1, hb2⟩ := i64_bd hb
  obtain ⟨hc1, hc2⟩ := i64_bd hc
  obtain ⟨k, Hk, hk24⟩ := pick_some kd 24 (by omega)
  obtain ⟨x, Hx, hx4⟩ := pick_some a 4 (by omega)
  obtain ⟨y, Hy, hy12⟩ := pick_some b 12 (by omega)
  obtain ⟨z3, H3, hz3⟩ := pick_some c 3 (by omega)
  obtain ⟨z4, H4, hz4⟩ := pick_some c 4 (by omega)
  rw [show pickI kd 24 = (k : Int) from Hk, show pickI a 4 = (x : Int) from Hx, show pickI b 12 = (y : Int) from Hy, show pickI c 3 = (z3 : Int) from H3, show pickI c 4 = (z4 : Int) from H4]
  simp only [Int.toNat_natCast]
  have hcase : k < 3 ∨ (¬ k < 3 ∧ k < 5) ∨ k = 5 ∨ k = 6 ∨ (6 < k ∧ k < 10) ∨ (¬ k < 10 ∧ k < 13) ∨ (¬ k < 13 ∧ k < 15) ∨ (¬ k < 15 ∧ k < 18) ∨ (¬ k < 18 ∧ k < 22) ∨ ¬ k < 22 := by omega
  rcases hcase with h | h | h | h | h | h | h | h | h | h
  · have e1 : rawK k z3 = 1 := by unfold rawK; rw [if_pos h]
    have e2 : rawKey k x = ⟨#[]⟩ := by unfold rawKey; rw [if_pos (by omega)]
    have e3 : rawVal k y z4 = ⟨#[]⟩ := by unfold rawVal; rw [if_pos (by omega)]
    rw [e1, e2, e3]
    exact stmt_1 kd a b c k x y z3 z4 w hk1 hk2 ha1 ha2 hb1 hb2 hc1 hc2 Hk Hx Hy H3 H4 hk24 hx4 hy12 hz3 hz4 h
  · have e1 : rawK k z3 = 2 := by unfold rawK; rw [if_neg h.1, if_pos h.2]
    have e2 : rawKey k x = ⟨#[]⟩ := by unfold rawKey; rw [if_pos (by omega)]
    have e3 : rawVal k y z4 = ⟨#[]⟩ := by unfold rawVal; rw [if_pos (by omega)]
    rw [e1, e2, e3]
    exact stmt_2 kd a b c k x y z3 z4 w hk1 hk2 ha1 ha2 hb1 hb2 hc1 hc2 Hk Hx Hy H3 H4 hk24 hx4 hy12 hz3 hz4 h
  · subst h
    exact stmt_3 kd a b c 5 x y z3 z4 w hk1 hk2 ha1 ha2 hb1 hb2 hc1 hc2 Hk Hx Hy H3 H4 hk24 hx4 hy12 hz3 hz4 rfl
  · subst h
    exact stmt_4 kd a b c 6 x y z3 z4 w hk1 hk2 ha1 ha2 hb1 hb2 hc1 hc2 Hk Hx Hy H3 H4 hk24 hx4 hy12 hz3 hz4 rfl
  · have e1 : rawK k z3 = 6 := by unfold rawK; rw [if_neg (by omega), if_neg (by omega), if_neg (by omega), if_neg (by omega), if_pos h.2]
    have e2 : rawKey k x = keyAt x := by unfold rawKey; rw [if_neg (by omega)]
    have e3 : rawVal k y z4 = ⟨#[]⟩ := by unfold rawVal; rw [if_pos (by omega)]
    rw [e1, e2, e3]
    exact stmt_6 kd a b c k x y z3 z4 w hk1 hk2 ha1 ha2 hb1 hb2 hc1 hc2 Hk Hx Hy H3 H4 hk24 hx4 hy12 hz3 hz4 h
  · have e1 : rawK k z3 = 7 := by unfold rawK; rw [if_neg (by omega), if_neg (by omega), if_neg (by omega), if_neg (by omega), if_neg h.1, if_pos h.2]
    have e2 : rawKey k x = keyAt x := by unfold rawKey; rw [if_neg (by omega)]
    have e3 : rawVal k y z4 = ⟨#[]⟩ := by unfold rawVal; rw [if_pos (by omega)]
    rw [e1, e2, e3]
    exact stmt_7 kd a b c k x y z3 z4 w hk1 hk2 ha1 ha2 hb1 hb2 hc1 hc2 Hk Hx Hy H3 H4 hk24 hx4 hy12 hz3 hz4 h
  · have e1 : rawK k z3 = 8 := by unfold rawK; rw [if_neg (by omega), if_neg (by omega), if_neg (by omega), if_neg (by omega), if_neg (by omega), if_neg h.1, if_pos h.2]
    have e2 : rawKey k x = keyAt x := by unfold rawKey; rw [if_neg (by omega)]
    have e3 : rawVal k y z4 = ⟨#[]⟩ := by unfold rawVal; rw [if_pos (by omega)]
    rw [e1, e2, e3]
    exact stmt_8 kd a b c k x y z3 z4 w hk1 hk2 ha1 ha2 hb1 hb2 hc1 hc2 Hk Hx Hy H3 H4 hk24 hx4 hy12 hz3 hz4 h
  · have e1 : rawK k z3 = 9 := by unfold rawK; rw [if_neg (by omega), if_neg (by omega), if_neg (by omega), if_neg (by omega), if_neg (by omega), if_neg (by omega), if_neg h.1, if_pos h.2]
    have e2 : rawKey k x = keyAt x := by unfold rawKey; rw [if_neg (by omega)]
    have e3 : rawVal k y z4 = valAt y := by unfold rawVal; rw [if_neg (by omega), if_pos (by omega)]
    rw [e1, e2, e3]
    exact stmt_9 kd a b c k x y z3 z4 w hk1 hk2 ha1 ha2 hb1 hb2 hc1 hc2 Hk Hx Hy H3 H4 hk24 hx4 hy12 hz3 hz4 h
  · have e1 : rawK k z3 = 10 := by unfold rawK; rw [if_neg (by omega), if_neg (by omega), if_neg (by omega), if_neg (by omega), if_neg (by omega), if_neg (by omega), if_neg (by omega), if_neg h.1, if_pos h.2]
    have e2 : rawKey k x = keyAt x := by unfold rawKey; rw [if_neg (by omega)]
    have e3 : rawVal k y z4 = valAt y := by unfold rawVal; rw [if_neg (by omega), if_pos (by omega)]
    rw [e1, e2, e3]
    exact stmt_10 kd a b c k x y z3 z4 w hk1 hk2 ha1 ha2 hb1 hb2 hc1 hc2 Hk Hx Hy H3 H4 hk24 hx4 hy12 hz3 hz4 h
  · have e1 : rawK k z3 = 11 := by unfold rawK; rw [if_neg (by omega), if_neg (by omega), if_neg (by omega), if_neg (by omega), if_neg (by omega), if_neg (by omega), if_neg (by omega), if_neg (by omega), if_neg h]
    have e2 : rawKey k x = keyAt x := by unfold rawKey; rw [if_neg (by omega)]
    have e3 : rawVal k y z4 = prepAt z4 y := by unfold rawVal; rw [if_neg (by omega), if_neg h]
    rw [e1, e2, e3]
    exact stmt_11 kd a b c k x y z3 z4 w hk1 hk2 ha1 ha2 hb1 hb2 hc1 hc2 Hk Hx Hy H3 H4 hk24 hx4 hy12 hz3 hz4 h

end Go.Proofs.YtpbaobmegomfpabDoor

