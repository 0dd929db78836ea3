/-
  Texts of the proof, one behind the other: WldP, OpenW.
-/
import Derived.Test.YtpbaobmegomfpabGreatDoorM19
import Derived.Test.YtpbaobmegomfpabGreatDoorM22
import Derived.Test.YtpbaobmegomfpabGreatDoorM2
import Derived.Test.YtpbaobmegomfpabGreatDoorRows
import Derived.Deep.Slices
import Derived.Deep.SlicePairs
import Derived.SizedLaws
import Derived.ProofKit
import Derived.Lib.SmallJoins
set_option linter.unusedVariables false
set_option linter.unusedSimpArgs false
set_option maxRecDepth 100000
open List renaming getElem_toArray → gTA, getElem_cons_zero → gCZ, getElem_cons_succ → gCS, setIfInBounds_toArray → sTA, set_cons_zero → sCZ, set_cons_succ → sCS
open Go.Lib renaming hid → jD
open Nat renaming le_refl → nL
namespace Go.Proofs.YtpbaobmegomfpabGreatDoor
open Go.RowKit
theorem EndR.wldP {w : World} {base X S : Nat} {r : Value} {W : Wd} (h : EndR w base X S r W) : WldP w (fun b => base ≤ b) r (slc S W.ss.length W.ss.length) W := by
 obtain ⟨hbox, hw, hlr⟩ := h.box
 refine ⟨hw, fun _ b off n c e => hlr ⟨b, off, none⟩ n c e, fun hn b off n c e => ?_⟩
 unfold slc at e
 injection e with e
 injection e with e
 injection e with e1 e2
 subst e1 e2
 refine ⟨h.loS, fun k j v hk hj hv _ b off n c e => ?_⟩
 rw [Nat.zero_add] at hv
 exact h.los k j v hk hj hv ⟨b, off, none⟩ n c e
set_option maxHeartbeats 2000000 in
theorem do_lo (r s : Value) (W : Wd) (i : Nat) (k : Int) (key val : ByteArray) (w : World) (hW : Wld w w.heap.size r s W) (hWo : Words w) (hkz : key.size ≤ maxLen) (hvz : val.size ≤ maxLen) (he : doE W i k key val = 0) :
  Calls Tryz.prog 23 #[.agg #[r, s], .int .i64 i, .agg #[.int .i64 k, .string key, .string val]] w fun e w' => ∃ r' s', e = .returned (doGood r' s' (doM W i k key val).2 ((doM W i k key val).1.at i).st) ∧ WldP w' (fun b => w.heap.size ≤ b) r' s' (doM W i k key val).1 ∧ Below w.heap.size w w' := by
 obtain ⟨A, c, rfl, hc⟩ := hW.sess.form
 obtain ⟨D, d, rfl, hd⟩ := hW.rows.form
 have HW := jD hW
 have HWo := jD hWo
 have t : (doE W i k key val != 0) = false := bne_eq_false_iff_eq.2 he
 obtain ⟨hwb, hi, hchk⟩ : worldB W = true ∧ i < W.ss.length ∧ checkE k key val = 0 := by
  unfold doE at he
  split at he
  ·cases he
  ·rename_i h1
   split at he
   ·cases he
   ·rename_i h2
    exact ⟨by simpa using h1, by omega, he⟩
 have hwo := worldB_iff.1 hwb
 have hz := worldOk_sz hwo
 have HZ := jD hz
 have HK := jD hchk
 have HWK := jD hwo
 clear hwb hwo hz hchk
 have H0 := jD (doAt0 w (.slice D W.rows.length d) (.slice A W.ss.length c) k key val)
 clear hW hWo he
 go_enter Tryz.func23, Tryz.ntmps23
 go_wp2_with fail
 refine (checkDo_any _ _ W i k key val _ (HW.out.step H0.out.bel) (HWo.out.below H0.out.bel) hkz hvz).mono ?_
 rintro e w1 ⟨rfl, hb1⟩
 have h1 := H0.out.below hb1
 have x0 := h1.X.cell (j := 0) (by simp)
 have x1 := h1.X.cell (j := 1) (by simp)
 have y0 := h1.Y.cell (j := 0) (by simp)
 have y1 := h1.Y.cell (j := 1) (by simp)
 have y2 := h1.Y.cell (j := 2) (by simp)
 simp only [gCZ, gCS] at x0 x1 y0 y1 y2
 have H1 := jD h1
 clear hb1 h1
 go_wp2_with fail
 refine (copy_any _ _ W _ (HW.out.step H1.out.bel)).mono ?_
 rintro e w2 ⟨gR, S, G, rfl, hown, hb2⟩
 have h2 := H1.out.below hb2
 have hD := hown.ownD h2.X (by have := H1.out.size; omega) HZ.out
 have hlo : LoD w.heap.size w.heap.size S gR G W.ss.length := ⟨nL _, by have := hown.loS; have := H1.out.size; omega, by have := hown.loR; have := H1.out.size; omega, fun i j hi hj => by have := hown.sess.lo i j hi hj; have := H1.out.size; omega⟩
 have HD := jD hD
 have HO := jD hown
 have H2 := jD h2
 have HLO := jD hlo
 obtain ⟨u0, x0⟩ := h2.X.any (j := 0) (by omega)
 obtain ⟨u1, x1⟩ := h2.X.any (j := 1) (by omega)
 have f0 := h2.X.frozen 0
 have f1 := h2.X.frozen 1
 have y0 := h2.Y.cell (j := 0) (by simp)
 have y1 := h2.Y.cell (j := 1) (by simp)
 have y2 := h2.Y.cell (j := 2) (by simp)
 simp only [gCZ, gCS] at y0 y1 y2
 clear hb2 h2 hD hown hlo
 unfold sl at HD ⊢
 go_wp2_with fail
 have hfine := didM_ok HWK.out hi HK.out
 have htx := (didM_ans HWK.out hi k key val).len
 obtain ⟨q, hq⟩ : ∃ q, q = didM W i k key val := ⟨_, rfl⟩
 have HE := jD (execute_any w.heap.size w.heap.size S gR W.rows.length G (fun i j => ((W.at i).li j).length) W i k key val _ HD.out HLO.out HWK.out (by have := H2.out.size; simp [World.setCell]; omega) hi HK.out (HWo.out.below ((H2.out.bel.setCell (nL _) _).setCell (nL _) _)))
 rw [← hq] at HE hfine htx
 refine HE.out.mono ?_
 rintro e w4 hp
 obtain rfl := hp.1
 have hsz : ∀ u v, ((w2.setCell ⟨w.heap.size, 0, none⟩ u).setCell ⟨w.heap.size, 1, none⟩ v).heap.size = w2.heap.size := fun u v => by simp [World.setCell]
 have hrest : ∀ b, w.heap.size < b → b < w.heap.size + 1 + 1 + 1 + 1 → w4.heap[b]? = w2.heap[b]? := fun b h1 h2 => by
  have h3 := H2.out.size
  have h4 := HO.out.loS
  have h5 := HO.out.loR
  have h6 := H1.out.size
  rw [hp.2.2.2 b (by rw [hsz]; omega) (by omega) (by omega) (by omega) (fun i j hi hj => by have := HO.out.sess.lo i j hi hj; omega), Below.heap_setCell _ _ _ _ (by show b ≠ w.heap.size; omega), Below.heap_setCell _ _ _ _ (by show b ≠ w.heap.size; omega)]
 have R4 := H2.out.R.same (hrest _ (by omega) (by omega))
 have A4 := H2.out.A.same (hrest _ (by omega) (by omega))
 obtain ⟨rv, hEnd⟩ := hp.2.1.r
 have hBel : Below w.heap.size w w4 := ((H2.out.bel.setCell (nL _) _).setCell (nL _) _).trans hp.2.2.1
 obtain ⟨hbox, hwl, hlr⟩ := hEnd.box
 have hqi : i < q.1.ss.length := by rw [hfine.2]; exact hi
 obtain ⟨v1, v2, v3, v4, hses⟩ := hEnd.sess hqi
 have hsi := hses.c0
 obtain ⟨rA, rc, rfl, _⟩ := hwl.rows.form
 have z0 := hbox.cell (j := 0) (by simp)
 have z1 := hbox.cell (j := 1) (by simp)
 simp only [gCZ, gCS] at z0 z1
 unfold slc at z1
 have hqi' : (i : Int) < (q.1.ss.length : Int) := by omega
 have hSw := hEnd.blk.lt
 have hXw := hbox.lt
 have fS0 := hEnd.blk.frozen (i * 5)
 have fS4 := hEnd.blk.frozen (i * 5 + 4)
 obtain ⟨u4, uS4⟩ := hEnd.blk.any (j := i * 5 + 4) (by omega)
 have hRw := R4.lt
 have hAw := A4.lt
 have hXS : w.heap.size ≠ S := fun e => by have := HO.out.loS; have := H1.out.size; omega
 have HP := jD hEnd
 have HB := jD hBel
 have HR := jD R4
 have HA := jD A4
 have HF := jD hfine
 have HQ := jD hq
 clear hp hrest R4 A4 hEnd hBel hbox hwl hlr hses hfine hq HE hsz x0 x1 f0 f1 y0 y1 y2
 unfold ansV
 have hRS : w.heap.size + 1 + 1 ≠ S := fun e => by have := HO.out.loS; have := H1.out.size; omega
 have hRS3 : w.heap.size + 1 + 1 + 1 ≠ S := fun e => by have := HO.out.loS; have := H1.out.size; omega
 by_cases hcase : q.2.kind = 4 ∧ q.1.ss[i].st = 1
 ·have c1 : (q.2.kind == 4) = true := beq_iff_eq.2 hcase.1
  have c2 : (q.1.ss[i].st == 1) = true := beq_iff_eq.2 hcase.2
  have HC := jD hcase
  clear hcase
  go_wp2
  have hE5 := (HP.out.failed hqi hXS).below ((Below.refl _ _).alloc (nL _) (.cells #[.int .i64 q.2.kind, .string q.2.text, .int .i64 0] 46))
  have hR5 := ((HR.out.other (p := ⟨S, i * 5, none⟩) (fun e => hRS e.symm) (.int .i64 2)).other (p := ⟨S, i * 5 + 4, none⟩) (fun e => hRS e.symm) (.slice none 0 0)).alloc (.cells #[.int .i64 q.2.kind, .string q.2.text, .int .i64 0] 46)
  have hA5' := ((HA.out.other (p := ⟨S, i * 5, none⟩) (fun e => hRS3 e.symm) (.int .i64 2)).other (p := ⟨S, i * 5 + 4, none⟩) (fun e => hRS3 e.symm) (.slice none 0 0)).alloc (.cells #[.int .i64 q.2.kind, .string q.2.text, .int .i64 0] 46)
  have hB5 := ((HB.out.setCell (p := ⟨S, i * 5, none⟩) HLO.out.s (.int .i64 2)).setCell (p := ⟨S, i * 5 + 4, none⟩) HLO.out.s (.slice none 0 0)).alloc (by simp [World.setCell]; omega) (.cells #[.int .i64 q.2.kind, .string q.2.text, .int .i64 0] 46)
  have hz5 : (((w4.setCell ⟨S, i * 5, none⟩ (.int .i64 2)).setCell ⟨S, i * 5 + 4, none⟩ (.slice none 0 0)).alloc (.cells #[.int .i64 q.2.kind, .string q.2.text, .int .i64 0] 46)).heap.size = w4.heap.size + 1 := by simp [World.setCell]
  have hNew := RowTo.whole ((w4.setCell ⟨S, i * 5, none⟩ (.int .i64 2)).setCell ⟨S, i * 5 + 4, none⟩ (.slice none 0 0)) #[.int .i64 q.2.kind, .string q.2.text, .int .i64 0] 46
  rw [show ((w4.setCell ⟨S, i * 5, none⟩ (.int .i64 2)).setCell ⟨S, i * 5 + 4, none⟩ (.slice none 0 0)).heap.size = w4.heap.size by simp [World.setCell]] at hNew
  have hq5 : i < (q.1.put i { q.1.ss[i] with st := 2, wr := [] }).ss.length := by rw [wput_len]; exact hqi
  have hst5 : (q.1.put i { q.1.ss[i] with st := 2, wr := [] }).ss[i].st = 2 := by simp [Wd.put]
  obtain ⟨u1, u2, u3, u5, hs5⟩ := hE5.sess hq5
  have s0 := hs5.c0
  rw [hst5] at s0
  have zn : ∀ j u, w4.cell? ⟨w.heap.size, j, none⟩ = some u → (((w4.setCell ⟨S, i * 5, none⟩ (.int .i64 2)).setCell ⟨S, i * 5 + 4, none⟩ (.slice none 0 0)).alloc (.cells #[.int .i64 q.2.kind, .string q.2.text, .int .i64 0] 46)).cell? ⟨w.heap.size, j, none⟩ = some u := fun j u h => by rw [World.cell?_alloc_lt _ _ _ (by simp [World.setCell]; omega), World.cell?_setCell_other _ _ _ _ (fun e => by injection e with e; exact hXS e.symm), World.cell?_setCell_other _ _ _ _ (fun e => by injection e with e; exact hXS e.symm)]; exact h
  have z0 := zn 0 _ z0
  have z1 := zn 1 _ z1
  have a0 := hNew.cell (j := 0) (by simp)
  have a1 := hNew.cell (j := 1) (by simp)
  simp only [gCZ, gCS] at a0 a1
  have hX5 : w.heap.size < (((w4.setCell ⟨S, i * 5, none⟩ (.int .i64 2)).setCell ⟨S, i * 5 + 4, none⟩ (.slice none 0 0)).alloc (.cells #[.int .i64 q.2.kind, .string q.2.text, .int .i64 0] 46)).heap.size := by rw [hz5]; omega
  have hA5 : w4.heap.size < (((w4.setCell ⟨S, i * 5, none⟩ (.int .i64 2)).setCell ⟨S, i * 5 + 4, none⟩ (.slice none 0 0)).alloc (.cells #[.int .i64 q.2.kind, .string q.2.text, .int .i64 0] 46)).heap.size := by rw [hz5]; omega
  have hS5 : S < (((w4.setCell ⟨S, i * 5, none⟩ (.int .i64 2)).setCell ⟨S, i * 5 + 4, none⟩ (.slice none 0 0)).alloc (.cells #[.int .i64 q.2.kind, .string q.2.text, .int .i64 0] 46)).heap.size := by rw [hz5]; omega
  have HDM := jD (show doM W i k key val = (q.1.put i { q.1.ss[i] with st := 2, wr := [] }, q.2) by rw [doM, ← HQ.out]; simp only [getD_at hqi]; rw [if_pos HC.out])
  have hXR : w.heap.size ≠ w.heap.size + 1 + 1 := by omega
  have hAR : w4.heap.size ≠ w.heap.size + 1 + 1 := by omega
  have hSR : S ≠ w.heap.size + 1 + 1 := fun e => hRS e.symm
  have hXA : w.heap.size ≠ w.heap.size + 1 + 1 + 1 := by omega
  have hAA : w4.heap.size ≠ w.heap.size + 1 + 1 + 1 := by omega
  have hSA : S ≠ w.heap.size + 1 + 1 + 1 := fun e => hRS3 e.symm
  have HR5 := jD hR5
  have HA5 := jD hA5'
  have HE5 := jD hE5
  have HB5 := jD hB5
  have hRw5 := hR5.lt
  have hAw5 := hA5'.lt
  clear hR5 hA5' hE5 hB5 zn hz5 hNew hs5 hst5 hq5
  generalize ((w4.setCell ⟨S, i * 5, none⟩ (.int .i64 2)).setCell ⟨S, i * 5 + 4, none⟩ (.slice none 0 0)).alloc (.cells #[.int .i64 q.2.kind, .string q.2.text, .int .i64 0] 46) = W5 at *
  have kb := Below.refl W5.heap.size W5
  have HS := jD (show W5.drew.cell? ⟨w.heap.size, 0, none⟩ = some (.slice rA q.1.rows.length rc) ∧ W5.drew.cell? ⟨w.heap.size, 1, none⟩ = some (.slice (some ⟨S, 0, none⟩) q.1.ss.length q.1.ss.length) ∧ W5.drew.cell? ⟨w4.heap.size, 0, none⟩ = some (.int .i64 q.2.kind) ∧ W5.drew.cell? ⟨w4.heap.size, 1, none⟩ = some (.string q.2.text) ∧ W5.drew.cell? ⟨S, i * 5, none⟩ = some (.int .i64 2) from ⟨z0, z1, a0, a1, s0⟩)
  go_region_held3 (fun wx => wx.cell? ⟨w.heap.size, 0, none⟩ = some (.slice rA q.1.rows.length rc) ∧ wx.cell? ⟨w.heap.size, 1, none⟩ = some (.slice (some ⟨S, 0, none⟩) q.1.ss.length q.1.ss.length) ∧ wx.cell? ⟨w4.heap.size, 0, none⟩ = some (.int .i64 q.2.kind) ∧ wx.cell? ⟨w4.heap.size, 1, none⟩ = some (.string q.2.text) ∧ wx.cell? ⟨S, i * 5, none⟩ = some (.int .i64 2))
   (first
    | with_reducible exact ⟨z0, z1, a0, a1, s0⟩
    | with_reducible exact HS.out
    | with_reducible exact ⟨(kb.cell (p := ⟨w.heap.size, 0, none⟩) hX5).trans z0, (kb.cell (p := ⟨w.heap.size, 1, none⟩) hX5).trans z1, (kb.cell (p := ⟨w4.heap.size, 0, none⟩) hA5).trans a0, (kb.cell (p := ⟨w4.heap.size, 1, none⟩) hA5).trans a1, (kb.cell (p := ⟨S, i * 5, none⟩) hS5).trans s0⟩
    | with_reducible exact ⟨cell_set3 (cell_set2 ((kb.cell (p := ⟨w.heap.size, 0, none⟩) hX5).trans z0) hXR) hXA, cell_set3 (cell_set2 ((kb.cell (p := ⟨w.heap.size, 1, none⟩) hX5).trans z1) hXR) hXA, cell_set3 (cell_set2 ((kb.cell (p := ⟨w4.heap.size, 0, none⟩) hA5).trans a0) hAR) hAA, cell_set3 (cell_set2 ((kb.cell (p := ⟨w4.heap.size, 1, none⟩) hA5).trans a1) hAR) hAA, cell_set3 (cell_set2 ((kb.cell (p := ⟨S, i * 5, none⟩) hS5).trans s0) hSR) hSA⟩
    | with_reducible exact ⟨cell_set2 ((kb.cell (p := ⟨w.heap.size, 0, none⟩) hX5).trans z0) hXR, cell_set2 ((kb.cell (p := ⟨w.heap.size, 1, none⟩) hX5).trans z1) hXR, cell_set2 ((kb.cell (p := ⟨w4.heap.size, 0, none⟩) hA5).trans a0) hAR, cell_set2 ((kb.cell (p := ⟨w4.heap.size, 1, none⟩) hA5).trans a1) hAR, cell_set2 ((kb.cell (p := ⟨S, i * 5, none⟩) hS5).trans s0) hSR⟩)
   (first
    | (
     go_at_call 46
     refine (clone_any q.2.text _ (by omega)).mono ?_
     rintro e w6 ⟨rfl, hy⟩
     have kb : Below W5.heap.size W5 w6 := by first | exact hy | exact bel_addN kb hy kb.size | exact bel_add kb hy kb.size
     have R6 := HR5.out.below kb hRw5
     have A6 := HA5.out.below kb hAw5
     have r0 := R6.cell (j := 0) (by simp)
     have r1 := R6.cell (j := 1) (by simp)
     have b0 := A6.cell (j := 0) (by simp)
     have b1 := A6.cell (j := 1) (by simp)
     have b2 := A6.cell (j := 2) (by simp)
     have g0 := R6.frozen 0
     have g1 := R6.frozen 1
     have k0 := A6.frozen 0
     have k1 := A6.frozen 1
     have k2 := A6.frozen 2
     simp only [gCZ, gCS] at r0 r1 b0 b1 b2))
  all_goals go_wp2
  all_goals refine bodyPost_ret (v := doGood (.slice rA q.1.rows.length rc) (.slice (some ⟨S, 0, none⟩) q.1.ss.length q.1.ss.length) q.2 2) (by simp [results, Tryz.results23, go_sem, r0, r1, b0, b1, b2, doGood]) rfl ?_
  all_goals
   have hk1 : ∀ b, b ≠ w.heap.size + 1 + 1 → ((w6.setCell ⟨w.heap.size + 1 + 1, 0, none⟩ (.slice rA q.1.rows.length rc)).setCell ⟨w.heap.size + 1 + 1, 1, none⟩ (.slice (some ⟨S, 0, none⟩) q.1.ss.length q.1.ss.length)).heap[b]? = w6.heap[b]? := fun b hb => by rw [Below.heap_setCell _ _ _ _ hb, Below.heap_setCell _ _ _ _ hb]
   have e1 := (HE5.out.below kb).offN (R := w.heap.size + 1 + 1) (by omega) hSR (noTwo_world R6) (by simp [World.setCell]) hk1
   have A7 := (A6.other (p := ⟨w.heap.size + 1 + 1, 0, none⟩) (by show w.heap.size + 1 + 1 ≠ _; omega) (.slice rA q.1.rows.length rc)).other (p := ⟨w.heap.size + 1 + 1, 1, none⟩) (by show w.heap.size + 1 + 1 ≠ _; omega) (.slice (some ⟨S, 0, none⟩) q.1.ss.length q.1.ss.length)
   have hk2 : ∀ (x y z : Value) b, b ≠ w.heap.size + 1 + 1 + 1 → (((((w6.setCell ⟨w.heap.size + 1 + 1, 0, none⟩ (.slice rA q.1.rows.length rc)).setCell ⟨w.heap.size + 1 + 1, 1, none⟩ (.slice (some ⟨S, 0, none⟩) q.1.ss.length q.1.ss.length)).setCell ⟨w.heap.size + 1 + 1 + 1, 0, none⟩ x).setCell ⟨w.heap.size + 1 + 1 + 1, 1, none⟩ y).setCell ⟨w.heap.size + 1 + 1 + 1, 2, none⟩ z).heap[b]? = ((w6.setCell ⟨w.heap.size + 1 + 1, 0, none⟩ (.slice rA q.1.rows.length rc)).setCell ⟨w.heap.size + 1 + 1, 1, none⟩ (.slice (some ⟨S, 0, none⟩) q.1.ss.length q.1.ss.length)).heap[b]? := fun x y z b hb => by rw [Below.heap_setCell _ _ _ _ hb, Below.heap_setCell _ _ _ _ hb, Below.heap_setCell _ _ _ _ hb]
   have e2 := e1.offN (R := w.heap.size + 1 + 1 + 1) (w' := ((((w6.setCell ⟨w.heap.size + 1 + 1, 0, none⟩ (.slice rA q.1.rows.length rc)).setCell ⟨w.heap.size + 1 + 1, 1, none⟩ (.slice (some ⟨S, 0, none⟩) q.1.ss.length q.1.ss.length)).setCell ⟨w.heap.size + 1 + 1 + 1, 0, none⟩ (.int .i64 q.2.kind)).setCell ⟨w.heap.size + 1 + 1 + 1, 1, none⟩ (.string q.2.text)).setCell ⟨w.heap.size + 1 + 1 + 1, 2, none⟩ (.int .i64 2)) (by omega) (fun e => hRS3 e.symm) (noTwo_answer A7) (by simp [World.setCell]) (hk2 _ _ _)
   have bf := (((((HB5.out.trans (kb.mono (by omega))).setCell (p := ⟨w.heap.size + 1 + 1, 0, none⟩) (by show w.heap.size ≤ w.heap.size + 1 + 1; omega) (.slice rA q.1.rows.length rc)).setCell (p := ⟨w.heap.size + 1 + 1, 1, none⟩) (by show w.heap.size ≤ w.heap.size + 1 + 1; omega) (.slice (some ⟨S, 0, none⟩) q.1.ss.length q.1.ss.length)).setCell (p := ⟨w.heap.size + 1 + 1 + 1, 0, none⟩) (by show w.heap.size ≤ w.heap.size + 1 + 1 + 1; omega) (.int .i64 q.2.kind)).setCell (p := ⟨w.heap.size + 1 + 1 + 1, 1, none⟩) (by show w.heap.size ≤ w.heap.size + 1 + 1 + 1; omega) (.string q.2.text)).setCell (p := ⟨w.heap.size + 1 + 1 + 1, 2, none⟩) (by show w.heap.size ≤ w.heap.size + 1 + 1 + 1; omega) (.int .i64 2)
   rw [HDM.out]
   refine ⟨.slice rA q.1.rows.length rc, .slice (some ⟨S, 0, none⟩) q.1.ss.length q.1.ss.length, (by simp only [wput_at_ hqi]), ?_, bf⟩
   have HNl := e2.wldP
   rw [wput_len] at HNl
   exact HNl
 ·have HC := jD hcase
  cases c1 : (q.2.kind == 4)
  ·clear hcase
   go_wp2
   have hE5 := HP.out.below ((Below.refl _ _).alloc (nL _) (.cells #[.int .i64 q.2.kind, .string q.2.text, .int .i64 0] 46))
   have hR5 := HR.out.alloc (.cells #[.int .i64 q.2.kind, .string q.2.text, .int .i64 0] 46)
   have hA5' := HA.out.alloc (.cells #[.int .i64 q.2.kind, .string q.2.text, .int .i64 0] 46)
   have hB5 := HB.out.alloc (by omega) (.cells #[.int .i64 q.2.kind, .string q.2.text, .int .i64 0] 46)
   have hz5 : (w4.alloc (.cells #[.int .i64 q.2.kind, .string q.2.text, .int .i64 0] 46)).heap.size = w4.heap.size + 1 := by simp
   have hNew := RowTo.whole w4 #[.int .i64 q.2.kind, .string q.2.text, .int .i64 0] 46
   obtain ⟨u1, u2, u3, u5, hs5⟩ := hE5.sess hqi
   have s0 := hs5.c0
   have zn : ∀ j u, w4.cell? ⟨w.heap.size, j, none⟩ = some u → (w4.alloc (.cells #[.int .i64 q.2.kind, .string q.2.text, .int .i64 0] 46)).cell? ⟨w.heap.size, j, none⟩ = some u := fun j u h => by rw [World.cell?_alloc_lt _ _ _ hXw]; exact h
   have z0 := zn 0 _ z0
   have z1 := zn 1 _ z1
   have a0 := hNew.cell (j := 0) (by simp)
   have a1 := hNew.cell (j := 1) (by simp)
   simp only [gCZ, gCS] at a0 a1
   have hX5 : w.heap.size < (w4.alloc (.cells #[.int .i64 q.2.kind, .string q.2.text, .int .i64 0] 46)).heap.size := by rw [hz5]; omega
   have hA5 : w4.heap.size < (w4.alloc (.cells #[.int .i64 q.2.kind, .string q.2.text, .int .i64 0] 46)).heap.size := by rw [hz5]; omega
   have hS5 : S < (w4.alloc (.cells #[.int .i64 q.2.kind, .string q.2.text, .int .i64 0] 46)).heap.size := by rw [hz5]; omega
   have HDM := jD (show doM W i k key val = q by rw [doM, ← HQ.out]; simp only [getD_at hqi]; rw [if_neg HC.out])
   have hXR : w.heap.size ≠ w.heap.size + 1 + 1 := by omega
   have hAR : w4.heap.size ≠ w.heap.size + 1 + 1 := by omega
   have hSR : S ≠ w.heap.size + 1 + 1 := fun e => hRS e.symm
   have hXA : w.heap.size ≠ w.heap.size + 1 + 1 + 1 := by omega
   have hAA : w4.heap.size ≠ w.heap.size + 1 + 1 + 1 := by omega
   have hSA : S ≠ w.heap.size + 1 + 1 + 1 := fun e => hRS3 e.symm
   have HR5 := jD hR5
   have HA5 := jD hA5'
   have HE5 := jD hE5
   have HB5 := jD hB5
   have hRw5 := hR5.lt
   have hAw5 := hA5'.lt
   clear hR5 hA5' hE5 hB5 zn hz5 hNew hs5
   generalize w4.alloc (.cells #[.int .i64 q.2.kind, .string q.2.text, .int .i64 0] 46) = W5 at *
   have kb := Below.refl W5.heap.size W5
   have HS := jD (show W5.drew.cell? ⟨w.heap.size, 0, none⟩ = some (.slice rA q.1.rows.length rc) ∧ W5.drew.cell? ⟨w.heap.size, 1, none⟩ = some (.slice (some ⟨S, 0, none⟩) q.1.ss.length q.1.ss.length) ∧ W5.drew.cell? ⟨w4.heap.size, 0, none⟩ = some (.int .i64 q.2.kind) ∧ W5.drew.cell? ⟨w4.heap.size, 1, none⟩ = some (.string q.2.text) ∧ W5.drew.cell? ⟨S, i * 5, none⟩ = some (.int .i64 q.1.ss[i].st) from ⟨z0, z1, a0, a1, s0⟩)
   go_region_held3 (fun wx => wx.cell? ⟨w.heap.size, 0, none⟩ = some (.slice rA q.1.rows.length rc) ∧ wx.cell? ⟨w.heap.size, 1, none⟩ = some (.slice (some ⟨S, 0, none⟩) q.1.ss.length q.1.ss.length) ∧ wx.cell? ⟨w4.heap.size, 0, none⟩ = some (.int .i64 q.2.kind) ∧ wx.cell? ⟨w4.heap.size, 1, none⟩ = some (.string q.2.text) ∧ wx.cell? ⟨S, i * 5, none⟩ = some (.int .i64 q.1.ss[i].st))
    (first
     | with_reducible exact ⟨z0, z1, a0, a1, s0⟩
     | with_reducible exact HS.out
     | with_reducible exact ⟨(kb.cell (p := ⟨w.heap.size, 0, none⟩) hX5).trans z0, (kb.cell (p := ⟨w.heap.size, 1, none⟩) hX5).trans z1, (kb.cell (p := ⟨w4.heap.size, 0, none⟩) hA5).trans a0, (kb.cell (p := ⟨w4.heap.size, 1, none⟩) hA5).trans a1, (kb.cell (p := ⟨S, i * 5, none⟩) hS5).trans s0⟩
     | with_reducible exact ⟨cell_set3 (cell_set2 ((kb.cell (p := ⟨w.heap.size, 0, none⟩) hX5).trans z0) hXR) hXA, cell_set3 (cell_set2 ((kb.cell (p := ⟨w.heap.size, 1, none⟩) hX5).trans z1) hXR) hXA, cell_set3 (cell_set2 ((kb.cell (p := ⟨w4.heap.size, 0, none⟩) hA5).trans a0) hAR) hAA, cell_set3 (cell_set2 ((kb.cell (p := ⟨w4.heap.size, 1, none⟩) hA5).trans a1) hAR) hAA, cell_set3 (cell_set2 ((kb.cell (p := ⟨S, i * 5, none⟩) hS5).trans s0) hSR) hSA⟩
     | with_reducible exact ⟨cell_set2 ((kb.cell (p := ⟨w.heap.size, 0, none⟩) hX5).trans z0) hXR, cell_set2 ((kb.cell (p := ⟨w.heap.size, 1, none⟩) hX5).trans z1) hXR, cell_set2 ((kb.cell (p := ⟨w4.heap.size, 0, none⟩) hA5).trans a0) hAR, cell_set2 ((kb.cell (p := ⟨w4.heap.size, 1, none⟩) hA5).trans a1) hAR, cell_set2 ((kb.cell (p := ⟨S, i * 5, none⟩) hS5).trans s0) hSR⟩)
    (first
     | (
      go_at_call 46
      refine (clone_any q.2.text _ (by omega)).mono ?_
      rintro e w6 ⟨rfl, hy⟩
      have kb : Below W5.heap.size W5 w6 := by first | exact hy | exact bel_addN kb hy kb.size | exact bel_add kb hy kb.size
      have R6 := HR5.out.below kb hRw5
      have A6 := HA5.out.below kb hAw5
      have r0 := R6.cell (j := 0) (by simp)
      have r1 := R6.cell (j := 1) (by simp)
      have b0 := A6.cell (j := 0) (by simp)
      have b1 := A6.cell (j := 1) (by simp)
      have b2 := A6.cell (j := 2) (by simp)
      have g0 := R6.frozen 0
      have g1 := R6.frozen 1
      have k0 := A6.frozen 0
      have k1 := A6.frozen 1
      have k2 := A6.frozen 2
      simp only [gCZ, gCS] at r0 r1 b0 b1 b2))
   all_goals go_wp2
   all_goals refine bodyPost_ret (v := doGood (.slice rA q.1.rows.length rc) (.slice (some ⟨S, 0, none⟩) q.1.ss.length q.1.ss.length) q.2 q.1.ss[i].st) (by simp [results, Tryz.results23, go_sem, r0, r1, b0, b1, b2, doGood]) rfl ?_
   all_goals
    have hk1 : ∀ b, b ≠ w.heap.size + 1 + 1 → ((w6.setCell ⟨w.heap.size + 1 + 1, 0, none⟩ (.slice rA q.1.rows.length rc)).setCell ⟨w.heap.size + 1 + 1, 1, none⟩ (.slice (some ⟨S, 0, none⟩) q.1.ss.length q.1.ss.length)).heap[b]? = w6.heap[b]? := fun b hb => by rw [Below.heap_setCell _ _ _ _ hb, Below.heap_setCell _ _ _ _ hb]
    have e1 := (HE5.out.below kb).offN (R := w.heap.size + 1 + 1) (by omega) hSR (noTwo_world R6) (by simp [World.setCell]) hk1
    have A7 := (A6.other (p := ⟨w.heap.size + 1 + 1, 0, none⟩) (by show w.heap.size + 1 + 1 ≠ _; omega) (.slice rA q.1.rows.length rc)).other (p := ⟨w.heap.size + 1 + 1, 1, none⟩) (by show w.heap.size + 1 + 1 ≠ _; omega) (.slice (some ⟨S, 0, none⟩) q.1.ss.length q.1.ss.length)
    have hk2 : ∀ (x y z : Value) b, b ≠ w.heap.size + 1 + 1 + 1 → (((((w6.setCell ⟨w.heap.size + 1 + 1, 0, none⟩ (.slice rA q.1.rows.length rc)).setCell ⟨w.heap.size + 1 + 1, 1, none⟩ (.slice (some ⟨S, 0, none⟩) q.1.ss.length q.1.ss.length)).setCell ⟨w.heap.size + 1 + 1 + 1, 0, none⟩ x).setCell ⟨w.heap.size + 1 + 1 + 1, 1, none⟩ y).setCell ⟨w.heap.size + 1 + 1 + 1, 2, none⟩ z).heap[b]? = ((w6.setCell ⟨w.heap.size + 1 + 1, 0, none⟩ (.slice rA q.1.rows.length rc)).setCell ⟨w.heap.size + 1 + 1, 1, none⟩ (.slice (some ⟨S, 0, none⟩) q.1.ss.length q.1.ss.length)).heap[b]? := fun x y z b hb => by rw [Below.heap_setCell _ _ _ _ hb, Below.heap_setCell _ _ _ _ hb, Below.heap_setCell _ _ _ _ hb]
    have e2 := e1.offN (R := w.heap.size + 1 + 1 + 1) (w' := ((((w6.setCell ⟨w.heap.size + 1 + 1, 0, none⟩ (.slice rA q.1.rows.length rc)).setCell ⟨w.heap.size + 1 + 1, 1, none⟩ (.slice (some ⟨S, 0, none⟩) q.1.ss.length q.1.ss.length)).setCell ⟨w.heap.size + 1 + 1 + 1, 0, none⟩ (.int .i64 q.2.kind)).setCell ⟨w.heap.size + 1 + 1 + 1, 1, none⟩ (.string q.2.text)).setCell ⟨w.heap.size + 1 + 1 + 1, 2, none⟩ (.int .i64 q.1.ss[i].st)) (by omega) (fun e => hRS3 e.symm) (noTwo_answer A7) (by simp [World.setCell]) (hk2 _ _ _)
    have bf := (((((HB5.out.trans (kb.mono (by omega))).setCell (p := ⟨w.heap.size + 1 + 1, 0, none⟩) (by show w.heap.size ≤ w.heap.size + 1 + 1; omega) (.slice rA q.1.rows.length rc)).setCell (p := ⟨w.heap.size + 1 + 1, 1, none⟩) (by show w.heap.size ≤ w.heap.size + 1 + 1; omega) (.slice (some ⟨S, 0, none⟩) q.1.ss.length q.1.ss.length)).setCell (p := ⟨w.heap.size + 1 + 1 + 1, 0, none⟩) (by show w.heap.size ≤ w.heap.size + 1 + 1 + 1; omega) (.int .i64 q.2.kind)).setCell (p := ⟨w.heap.size + 1 + 1 + 1, 1, none⟩) (by show w.heap.size ≤ w.heap.size + 1 + 1 + 1; omega) (.string q.2.text)).setCell (p := ⟨w.heap.size + 1 + 1 + 1, 2, none⟩) (by show w.heap.size ≤ w.heap.size + 1 + 1 + 1; omega) (.int .i64 q.1.ss[i].st)
    rw [HDM.out]
    refine ⟨.slice rA q.1.rows.length rc, .slice (some ⟨S, 0, none⟩) q.1.ss.length q.1.ss.length, (by rw [getD_at hqi]), ?_, bf⟩
    exact e2.wldP
  ·have c2 : (q.1.ss[i].st == 1) = false := beq_eq_false_iff_ne.2 fun h1 => hcase ⟨beq_iff_eq.1 c1, h1⟩
   clear hcase
   go_wp2
   have hE5 := HP.out.below ((Below.refl _ _).alloc (nL _) (.cells #[.int .i64 q.2.kind, .string q.2.text, .int .i64 0] 46))
   have hR5 := HR.out.alloc (.cells #[.int .i64 q.2.kind, .string q.2.text, .int .i64 0] 46)
   have hA5' := HA.out.alloc (.cells #[.int .i64 q.2.kind, .string q.2.text, .int .i64 0] 46)
   have hB5 := HB.out.alloc (by omega) (.cells #[.int .i64 q.2.kind, .string q.2.text, .int .i64 0] 46)
   have hz5 : (w4.alloc (.cells #[.int .i64 q.2.kind, .string q.2.text, .int .i64 0] 46)).heap.size = w4.heap.size + 1 := by simp
   have hNew := RowTo.whole w4 #[.int .i64 q.2.kind, .string q.2.text, .int .i64 0] 46
   obtain ⟨u1, u2, u3, u5, hs5⟩ := hE5.sess hqi
   have s0 := hs5.c0
   have zn : ∀ j u, w4.cell? ⟨w.heap.size, j, none⟩ = some u → (w4.alloc (.cells #[.int .i64 q.2.kind, .string q.2.text, .int .i64 0] 46)).cell? ⟨w.heap.size, j, none⟩ = some u := fun j u h => by rw [World.cell?_alloc_lt _ _ _ hXw]; exact h
   have z0 := zn 0 _ z0
   have z1 := zn 1 _ z1
   have a0 := hNew.cell (j := 0) (by simp)
   have a1 := hNew.cell (j := 1) (by simp)
   simp only [gCZ, gCS] at a0 a1
   have hX5 : w.heap.size < (w4.alloc (.cells #[.int .i64 q.2.kind, .string q.2.text, .int .i64 0] 46)).heap.size := by rw [hz5]; omega
   have hA5 : w4.heap.size < (w4.alloc (.cells #[.int .i64 q.2.kind, .string q.2.text, .int .i64 0] 46)).heap.size := by rw [hz5]; omega
   have hS5 : S < (w4.alloc (.cells #[.int .i64 q.2.kind, .string q.2.text, .int .i64 0] 46)).heap.size := by rw [hz5]; omega
   have HDM := jD (show doM W i k key val = q by rw [doM, ← HQ.out]; simp only [getD_at hqi]; rw [if_neg HC.out])
   have hXR : w.heap.size ≠ w.heap.size + 1 + 1 := by omega
   have hAR : w4.heap.size ≠ w.heap.size + 1 + 1 := by omega
   have hSR : S ≠ w.heap.size + 1 + 1 := fun e => hRS e.symm
   have hXA : w.heap.size ≠ w.heap.size + 1 + 1 + 1 := by omega
   have hAA : w4.heap.size ≠ w.heap.size + 1 + 1 + 1 := by omega
   have hSA : S ≠ w.heap.size + 1 + 1 + 1 := fun e => hRS3 e.symm
   have HR5 := jD hR5
   have HA5 := jD hA5'
   have HE5 := jD hE5
   have HB5 := jD hB5
   have hRw5 := hR5.lt
   have hAw5 := hA5'.lt
   clear hR5 hA5' hE5 hB5 zn hz5 hNew hs5
   generalize w4.alloc (.cells #[.int .i64 q.2.kind, .string q.2.text, .int .i64 0] 46) = W5 at *
   have kb := Below.refl W5.heap.size W5
   have HS := jD (show W5.drew.cell? ⟨w.heap.size, 0, none⟩ = some (.slice rA q.1.rows.length rc) ∧ W5.drew.cell? ⟨w.heap.size, 1, none⟩ = some (.slice (some ⟨S, 0, none⟩) q.1.ss.length q.1.ss.length) ∧ W5.drew.cell? ⟨w4.heap.size, 0, none⟩ = some (.int .i64 q.2.kind) ∧ W5.drew.cell? ⟨w4.heap.size, 1, none⟩ = some (.string q.2.text) ∧ W5.drew.cell? ⟨S, i * 5, none⟩ = some (.int .i64 q.1.ss[i].st) from ⟨z0, z1, a0, a1, s0⟩)
   go_region_held3 (fun wx => wx.cell? ⟨w.heap.size, 0, none⟩ = some (.slice rA q.1.rows.length rc) ∧ wx.cell? ⟨w.heap.size, 1, none⟩ = some (.slice (some ⟨S, 0, none⟩) q.1.ss.length q.1.ss.length) ∧ wx.cell? ⟨w4.heap.size, 0, none⟩ = some (.int .i64 q.2.kind) ∧ wx.cell? ⟨w4.heap.size, 1, none⟩ = some (.string q.2.text) ∧ wx.cell? ⟨S, i * 5, none⟩ = some (.int .i64 q.1.ss[i].st))
    (first
     | with_reducible exact ⟨z0, z1, a0, a1, s0⟩
     | with_reducible exact HS.out
     | with_reducible exact ⟨(kb.cell (p := ⟨w.heap.size, 0, none⟩) hX5).trans z0, (kb.cell (p := ⟨w.heap.size, 1, none⟩) hX5).trans z1, (kb.cell (p := ⟨w4.heap.size, 0, none⟩) hA5).trans a0, (kb.cell (p := ⟨w4.heap.size, 1, none⟩) hA5).trans a1, (kb.cell (p := ⟨S, i * 5, none⟩) hS5).trans s0⟩
     | with_reducible exact ⟨cell_set3 (cell_set2 ((kb.cell (p := ⟨w.heap.size, 0, none⟩) hX5).trans z0) hXR) hXA, cell_set3 (cell_set2 ((kb.cell (p := ⟨w.heap.size, 1, none⟩) hX5).trans z1) hXR) hXA, cell_set3 (cell_set2 ((kb.cell (p := ⟨w4.heap.size, 0, none⟩) hA5).trans a0) hAR) hAA, cell_set3 (cell_set2 ((kb.cell (p := ⟨w4.heap.size, 1, none⟩) hA5).trans a1) hAR) hAA, cell_set3 (cell_set2 ((kb.cell (p := ⟨S, i * 5, none⟩) hS5).trans s0) hSR) hSA⟩
     | with_reducible exact ⟨cell_set2 ((kb.cell (p := ⟨w.heap.size, 0, none⟩) hX5).trans z0) hXR, cell_set2 ((kb.cell (p := ⟨w.heap.size, 1, none⟩) hX5).trans z1) hXR, cell_set2 ((kb.cell (p := ⟨w4.heap.size, 0, none⟩) hA5).trans a0) hAR, cell_set2 ((kb.cell (p := ⟨w4.heap.size, 1, none⟩) hA5).trans a1) hAR, cell_set2 ((kb.cell (p := ⟨S, i * 5, none⟩) hS5).trans s0) hSR⟩)
    (first
     | (
      go_at_call 46
      refine (clone_any q.2.text _ (by omega)).mono ?_
      rintro e w6 ⟨rfl, hy⟩
      have kb : Below W5.heap.size W5 w6 := by first | exact hy | exact bel_addN kb hy kb.size | exact bel_add kb hy kb.size
      have R6 := HR5.out.below kb hRw5
      have A6 := HA5.out.below kb hAw5
      have r0 := R6.cell (j := 0) (by simp)
      have r1 := R6.cell (j := 1) (by simp)
      have b0 := A6.cell (j := 0) (by simp)
      have b1 := A6.cell (j := 1) (by simp)
      have b2 := A6.cell (j := 2) (by simp)
      have g0 := R6.frozen 0
      have g1 := R6.frozen 1
      have k0 := A6.frozen 0
      have k1 := A6.frozen 1
      have k2 := A6.frozen 2
      simp only [gCZ, gCS] at r0 r1 b0 b1 b2))
   all_goals go_wp2
   all_goals refine bodyPost_ret (v := doGood (.slice rA q.1.rows.length rc) (.slice (some ⟨S, 0, none⟩) q.1.ss.length q.1.ss.length) q.2 q.1.ss[i].st) (by simp [results, Tryz.results23, go_sem, r0, r1, b0, b1, b2, doGood]) rfl ?_
   all_goals
    have hk1 : ∀ b, b ≠ w.heap.size + 1 + 1 → ((w6.setCell ⟨w.heap.size + 1 + 1, 0, none⟩ (.slice rA q.1.rows.length rc)).setCell ⟨w.heap.size + 1 + 1, 1, none⟩ (.slice (some ⟨S, 0, none⟩) q.1.ss.length q.1.ss.length)).heap[b]? = w6.heap[b]? := fun b hb => by rw [Below.heap_setCell _ _ _ _ hb, Below.heap_setCell _ _ _ _ hb]
    have e1 := (HE5.out.below kb).offN (R := w.heap.size + 1 + 1) (by omega) hSR (noTwo_world R6) (by simp [World.setCell]) hk1
    have A7 := (A6.other (p := ⟨w.heap.size + 1 + 1, 0, none⟩) (by show w.heap.size + 1 + 1 ≠ _; omega) (.slice rA q.1.rows.length rc)).other (p := ⟨w.heap.size + 1 + 1, 1, none⟩) (by show w.heap.size + 1 + 1 ≠ _; omega) (.slice (some ⟨S, 0, none⟩) q.1.ss.length q.1.ss.length)
    have hk2 : ∀ (x y z : Value) b, b ≠ w.heap.size + 1 + 1 + 1 → (((((w6.setCell ⟨w.heap.size + 1 + 1, 0, none⟩ (.slice rA q.1.rows.length rc)).setCell ⟨w.heap.size + 1 + 1, 1, none⟩ (.slice (some ⟨S, 0, none⟩) q.1.ss.length q.1.ss.length)).setCell ⟨w.heap.size + 1 + 1 + 1, 0, none⟩ x).setCell ⟨w.heap.size + 1 + 1 + 1, 1, none⟩ y).setCell ⟨w.heap.size + 1 + 1 + 1, 2, none⟩ z).heap[b]? = ((w6.setCell ⟨w.heap.size + 1 + 1, 0, none⟩ (.slice rA q.1.rows.length rc)).setCell ⟨w.heap.size + 1 + 1, 1, none⟩ (.slice (some ⟨S, 0, none⟩) q.1.ss.length q.1.ss.length)).heap[b]? := fun x y z b hb => by rw [Below.heap_setCell _ _ _ _ hb, Below.heap_setCell _ _ _ _ hb, Below.heap_setCell _ _ _ _ hb]
    have e2 := e1.offN (R := w.heap.size + 1 + 1 + 1) (w' := ((((w6.setCell ⟨w.heap.size + 1 + 1, 0, none⟩ (.slice rA q.1.rows.length rc)).setCell ⟨w.heap.size + 1 + 1, 1, none⟩ (.slice (some ⟨S, 0, none⟩) q.1.ss.length q.1.ss.length)).setCell ⟨w.heap.size + 1 + 1 + 1, 0, none⟩ (.int .i64 q.2.kind)).setCell ⟨w.heap.size + 1 + 1 + 1, 1, none⟩ (.string q.2.text)).setCell ⟨w.heap.size + 1 + 1 + 1, 2, none⟩ (.int .i64 q.1.ss[i].st)) (by omega) (fun e => hRS3 e.symm) (noTwo_answer A7) (by simp [World.setCell]) (hk2 _ _ _)
    have bf := (((((HB5.out.trans (kb.mono (by omega))).setCell (p := ⟨w.heap.size + 1 + 1, 0, none⟩) (by show w.heap.size ≤ w.heap.size + 1 + 1; omega) (.slice rA q.1.rows.length rc)).setCell (p := ⟨w.heap.size + 1 + 1, 1, none⟩) (by show w.heap.size ≤ w.heap.size + 1 + 1; omega) (.slice (some ⟨S, 0, none⟩) q.1.ss.length q.1.ss.length)).setCell (p := ⟨w.heap.size + 1 + 1 + 1, 0, none⟩) (by show w.heap.size ≤ w.heap.size + 1 + 1 + 1; omega) (.int .i64 q.2.kind)).setCell (p := ⟨w.heap.size + 1 + 1 + 1, 1, none⟩) (by show w.heap.size ≤ w.heap.size + 1 + 1 + 1; omega) (.string q.2.text)).setCell (p := ⟨w.heap.size + 1 + 1 + 1, 2, none⟩) (by show w.heap.size ≤ w.heap.size + 1 + 1 + 1; omega) (.int .i64 q.1.ss[i].st)
    rw [HDM.out]
    refine ⟨.slice rA q.1.rows.length rc, .slice (some ⟨S, 0, none⟩) q.1.ss.length q.1.ss.length, (by rw [getD_at hqi]), ?_, bf⟩
    exact e2.wldP
theorem do_new (r s : Value) (W : Wd) (i : Nat) (k : Int) (key val : ByteArray) (w : World) (hW : Wld w w.heap.size r s W) (hWo : Words w) (hok : WorldOk W) (hi : i < W.ss.length) (hc : checkE k key val = 0) :
  Calls Tryz.prog 23 #[.agg #[r, s], .int .i64 i, .agg #[.int .i64 k, .string key, .string val]] w fun e w' => ∃ r' s', e = .returned (doGood r' s' (doM W i k key val).2 ((doM W i k key val).1.at i).st) ∧ WldP w' (fun b => w.heap.size ≤ b) r' s' (doM W i k key val).1 ∧ Below w.heap.size w w' := by
 have g := good_of hc
 exact do_lo r s W i k key val w hW hWo (by have := g.key8; unfold maxLen; omega) (by have := g.v60; unfold maxLen; omega) (by
  unfold doE
  rw [if_neg (by rw [worldB_iff.2 hok]; simp), if_neg (by omega)]; exact hc)
end Go.Proofs.YtpbaobmegomfpabGreatDoor
namespace Go.Proofs.YtpbaobmegomfpabGreatDoor
open Go.RowKit Go.ChangeShapes Go.WideShapes Go.Deep Go.Joins
theorem spot_none {w : World} {a : Addr} {u : Value} (h : w.cell? a = some u) : a = ⟨a.block, a.off, none⟩ := by
 obtain ⟨b, o, s⟩ := a
 cases s with
 | none => rfl
 | some x => unfold World.cell? at h; simp at h; split at h <;> simp at h
section
variable {H : Type} {enc : TypeId × Value → H} {w : World} {base : Nat} {spare : Nat → Bool} {held : Bool}
end
section
variable {H : Type} {enc : TypeId × Value → H} {w : World} {base : Nat} {spare : Nat → Bool} {held : Bool}
end
end Go.Proofs.YtpbaobmegomfpabGreatDoor
