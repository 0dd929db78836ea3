/-
  Texts of the proof, one behind the other: BExec, BExec2, BFit, Say7, Say8, Say9, Say10, BChk.
-/
import Derived.Test.YtpbaobmegomfpabGreatDoorM14
import Derived.Test.YtpbaobmegomfpabGreatDoorM15
import Derived.Test.YtpbaobmegomfpabGreatDoorM8
import Derived.Test.YtpbaobmegomfpabGreatDoorM7
import Derived.Maps.RangeWalk
import Derived.Test.YtpbaobmegomfpabGreatDoorM2
import Derived.Deep.QuietTactic
import Derived.BigQuiet
import Derived.IntWalk
import Derived.WalkSmall
import Derived.Deep.RegionHeld3
import Derived.Deep.RegionWith
set_option linter.unusedVariables false
set_option linter.unusedSimpArgs false
set_option maxRecDepth 100000
open List renaming getElem_toArray → gTA, getElem_cons_zero → gCZ, getElem_cons_succ → gCS, setIfInBounds_toArray → sTA, set_cons_zero → sCZ, set_cons_succ → sCS
open Go.Lib renaming hid → jD
open Nat renaming le_refl → nL
namespace Go.Proofs.YtpbaobmegomfpabGreatDoor
open Go.RowKit
theorem prep_read {v : ByteArray} (h : prepB v = true) : readE v = 0 ∧ (1 ≤ kindN (cutA v) ∧ kindN (cutA v) ≤ 11 ∧ kindN (cutA v) ≠ 8) ∧ (cutA (cutB v)).size ≤ 8 ∧ (cutB (cutB v)).size ≤ 60 := by
 have h38 := prepB_38 h
 unfold prepB at h
 simp only [Bool.and_eq_true, decide_eq_true_eq] at h
 have a4 := bndB_size h.2.2.1
 have a5 := plainV_size h.2.2.2
 refine ⟨?_, by omega, a4.2, by omega⟩
 rw [readE_check (by omega) h.1]
 refine checkE_ok (by omega) ?_ ?_
 ·rw [keyB_yes (by omega)]; exact h.2.2.1
 ·unfold valueB; rw [if_neg (by omega)]; exact h.2.2.2
theorem prep_of {k v : ByteArray} (h : checkE 11 k v = 0) : prepB v = true := by
 cases e : prepB v
 ·exfalso
  rw [checkE_value (by omega) (by unfold valueB; rw [if_pos rfl]; exact e)] at h
  cases h
 ·rfl
set_option maxHeartbeats 2000000 in
theorem exec_none (X S gR cR : Nat) (G C : Nat → Nat → Nat) (W : Wd) (i : Nat) (key : ByteArray) (w : World) (h : OwnD w X S gR cR G C W) (hw : WorldOk W) (hi : i < W.ss.length) (hat : atL W.ss[i].prep key = none) :
  Calls Tryz.prog 69 #[.pointer (some ⟨X, 0, none⟩), .int .i64 i, .string key] w fun e w' => e = .returned (ansV 4 tNotPrep) ∧ Below w.heap.size w w' := by
 have hz := worldOk_sz hw
 have hXw := h.box.lt
 have hSw := h.blk.lt
 have x1 := h.box.cell (j := 1) (by simp)
 simp only [gCZ, gCS] at x1
 unfold slc at x1
 have hii : (i : Int) < (W.ss.length : Int) := by omega
 have p1 : w.cell? ⟨S, i * 5 + 2, none⟩ = some (.slice (some ⟨G i 1, 0, none⟩) W.ss[i].prep.length (C i 1)) := h.cs i 1 hi (by omega)
 have b0 : Below w.heap.size w ((w.alloc (.cells #[.int .i64 0, .string ⟨#[]⟩, .int .i64 0] 46)).alloc (.cells #[.slice (some ⟨G i 1, 0, none⟩) W.ss[i].prep.length (C i 1)] 27)) := ((Below.refl _ _).alloc (nL _) _).alloc (by simp) _
 have X0 : RowTo ((w.alloc (.cells #[.int .i64 0, .string ⟨#[]⟩, .int .i64 0] 46)).alloc (.cells #[.slice (some ⟨G i 1, 0, none⟩) W.ss[i].prep.length (C i 1)] 27)) w.heap.size 46 3 [.int .i64 0, .string ⟨#[]⟩, .int .i64 0] := (RowTo.whole w #[.int .i64 0, .string ⟨#[]⟩, .int .i64 0] 46).alloc _
 have HL := jD ((h.list hz hi (j := 1) (by omega)).step b0)
 have HRI := jD ((pairsB_rising (hw.sess i hi).prep).1)
 have hF : findA [W.ss[i].prep] key = none := by simp only [findA, hat]
 have HF := jD (show Calls Tryz.prog 68 #[.string key, .slice (some ⟨w.heap.size + 1, 0, none⟩) 1 1] ((w.alloc (.cells #[.int .i64 0, .string ⟨#[]⟩, .int .i64 0] 46)).alloc (.cells #[.slice (some ⟨G i 1, 0, none⟩) W.ss[i].prep.length (C i 1)] 27)) (fun e w' => e = .returned (.agg #[.int .i64 3, .string ⟨#[]⟩, .int .i64 0]) ∧ Below ((w.alloc (.cells #[.int .i64 0, .string ⟨#[]⟩, .int .i64 0] 46)).alloc (.cells #[.slice (some ⟨G i 1, 0, none⟩) W.ss[i].prep.length (C i 1)] 27)).heap.size ((w.alloc (.cells #[.int .i64 0, .string ⟨#[]⟩, .int .i64 0] 46)).alloc (.cells #[.slice (some ⟨G i 1, 0, none⟩) W.ss[i].prep.length (C i 1)] 27)) w') by
  have q := find_any key (w.heap.size + 1) [W.ss[i].prep] (fun _ => .slice (some ⟨G i 1, 0, none⟩) W.ss[i].prep.length (C i 1)) ((w.alloc (.cells #[.int .i64 0, .string ⟨#[]⟩, .int .i64 0] 46)).alloc (.cells #[.slice (some ⟨G i 1, 0, none⟩) W.ss[i].prep.length (C i 1)] 27)) (by simp) (by simp) (fun n hn => by
   obtain rfl : n = 0 := by simp at hn; omega
   exact ⟨by simp [go_sem], HL.out, HRI.out⟩)
  rw [hF] at q
  exact q)
 have hzs : ((w.alloc (.cells #[.int .i64 0, .string ⟨#[]⟩, .int .i64 0] 46)).alloc (.cells #[.slice (some ⟨G i 1, 0, none⟩) W.ss[i].prep.length (C i 1)] 27)).heap.size = w.heap.size + 1 + 1 := by simp
 have H := jD h
 have HZ := jD hz
 have HW := jD hw
 have B0 := jD b0
 have HX0 := jD X0
 have HZS := jD hzs
 have HAT := jD hat
 clear h hz hw b0 X0 hzs hF hat
 go_enter Tryz.func69, Tryz.ntmps69
 go_wp2_with fail
 refine HF.out.mono ?_
 rintro e w1 ⟨rfl, hb1⟩
 have hs1 := hb1.size
 rw [HZS.out] at hs1
 have X1 := HX0.out.below hb1 HX0.out.lt
 have B1 := jD (bel_add' B0.out hb1 B0.out.size)
 have HX1 := jD X1
 clear hb1 X1
 go_wp2_with fail
 refine (failure_any tNotPrep _).mono ?_
 rintro e w2 ⟨rfl, hb2⟩
 have B2 := jD (show Below w.heap.size w w2 from bel_add' ((B1.out).alloc (by omega) _) hb2 (by simp; omega))
 have X2 : RowTo w2 w.heap.size 46 3 [.int .i64 0, .string ⟨#[]⟩, .int .i64 0] := (HX1.out.alloc _).below hb2 (by simp; omega)
 have r0 := X2.cell (j := 0) (by simp)
 have r1 := X2.cell (j := 1) (by simp)
 have r2 := X2.cell (j := 2) (by simp)
 have s0 := X2.frozen 0
 have s1 := X2.frozen 1
 have s2 := X2.frozen 2
 simp only [gCZ, gCS] at r0 r1 r2
 clear hb2 X2
 unfold ansV
 go_wp2
 refine bodyPost_ret (v := .agg #[.int .i64 4, .string tNotPrep, .int .i64 0]) (by simp [results, Tryz.results69, go_sem, r0, r1, r2]) rfl ⟨rfl, ?_⟩
 exact ((B2.out.setCell (by simp) _).setCell (by simp) _).setCell (by simp) _
set_option maxHeartbeats 2000000 in
theorem exec_some (base X S gR cR : Nat) (G C : Nat → Nat → Nat) (W : Wd) (i : Nat) (key t : ByteArray) (w : World) (h : OwnD w X S gR cR G C W) (lo : LoD base X S gR G W.ss.length) (hw : WorldOk W) (hb : base ≤ w.heap.size) (hi : i < W.ss.length) (hW : Words w) (hat : atL W.ss[i].prep key = some t) :
  Calls Tryz.prog 69 #[.pointer (some ⟨X, 0, none⟩), .int .i64 i, .string key] w (ExPost w base X S gR G W.ss.length (did1 W i (kindN (cutA t)) (cutA (cutB t)) (cutB (cutB t)))) := by
 obtain ⟨hre, ⟨hk1, hk2, hk8⟩, hkz, hvz⟩ := prep_read (v := t) (prep_of (k := key) (v := t) ((pairsB_rising (hw.sess i hi).prep).2.2 _ (atL_mem hat)))
 have HRE := jD hre
 have HWW := jD hW
 obtain ⟨r, hr⟩ : ∃ r, r = did1 W i (kindN (cutA t)) (cutA (cutB t)) (cutB (cutB t)) := ⟨_, rfl⟩
 rw [← hr]
 have HX := jD (show ∀ (w9 : World), OwnD w9 X S gR cR G C W → base ≤ w9.heap.size → Calls Tryz.prog 45 #[.pointer (some ⟨X, 0, none⟩), .int .i64 i, .agg #[.int .i64 (kindN (cutA t)), .string (cutA (cutB t)), .string (cutB (cutB t))]] w9 (ExPost w9 base X S gR G W.ss.length r) from fun w9 h9 hb9 => by
  rw [hr]
  exact execute_plain base X S gR cR G C W i _ _ _ w9 h9 lo hw hb9 hi hkz hvz (by omega) (by omega) (by omega))
 clear hre hr hk1 hk2 hk8 hkz hvz hW
 have hz := worldOk_sz hw
 have hXw := h.box.lt
 have hSw := h.blk.lt
 have x1 := h.box.cell (j := 1) (by simp)
 simp only [gCZ, gCS] at x1
 unfold slc at x1
 have hii : (i : Int) < (W.ss.length : Int) := by omega
 have p1 : w.cell? ⟨S, i * 5 + 2, none⟩ = some (.slice (some ⟨G i 1, 0, none⟩) W.ss[i].prep.length (C i 1)) := h.cs i 1 hi (by omega)
 have b0 : Below w.heap.size w ((w.alloc (.cells #[.int .i64 0, .string ⟨#[]⟩, .int .i64 0] 46)).alloc (.cells #[.slice (some ⟨G i 1, 0, none⟩) W.ss[i].prep.length (C i 1)] 27)) := ((Below.refl _ _).alloc (nL _) _).alloc (by simp) _
 have X0 : RowTo ((w.alloc (.cells #[.int .i64 0, .string ⟨#[]⟩, .int .i64 0] 46)).alloc (.cells #[.slice (some ⟨G i 1, 0, none⟩) W.ss[i].prep.length (C i 1)] 27)) w.heap.size 46 3 [.int .i64 0, .string ⟨#[]⟩, .int .i64 0] := (RowTo.whole w #[.int .i64 0, .string ⟨#[]⟩, .int .i64 0] 46).alloc _
 have HL := jD ((h.list hz hi (j := 1) (by omega)).step b0)
 have HRI := jD ((pairsB_rising (hw.sess i hi).prep).1)
 have hF : findA [W.ss[i].prep] key = some t := by simp only [findA, hat]
 have HF := jD (show Calls Tryz.prog 68 #[.string key, .slice (some ⟨w.heap.size + 1, 0, none⟩) 1 1] ((w.alloc (.cells #[.int .i64 0, .string ⟨#[]⟩, .int .i64 0] 46)).alloc (.cells #[.slice (some ⟨G i 1, 0, none⟩) W.ss[i].prep.length (C i 1)] 27)) (fun e w' => e = .returned (.agg #[.int .i64 2, .string t, .int .i64 0]) ∧ Below ((w.alloc (.cells #[.int .i64 0, .string ⟨#[]⟩, .int .i64 0] 46)).alloc (.cells #[.slice (some ⟨G i 1, 0, none⟩) W.ss[i].prep.length (C i 1)] 27)).heap.size ((w.alloc (.cells #[.int .i64 0, .string ⟨#[]⟩, .int .i64 0] 46)).alloc (.cells #[.slice (some ⟨G i 1, 0, none⟩) W.ss[i].prep.length (C i 1)] 27)) w') by
  have q := find_any key (w.heap.size + 1) [W.ss[i].prep] (fun _ => .slice (some ⟨G i 1, 0, none⟩) W.ss[i].prep.length (C i 1)) ((w.alloc (.cells #[.int .i64 0, .string ⟨#[]⟩, .int .i64 0] 46)).alloc (.cells #[.slice (some ⟨G i 1, 0, none⟩) W.ss[i].prep.length (C i 1)] 27)) (by simp) (by simp) (fun n hn => by
   obtain rfl : n = 0 := by simp at hn; omega
   exact ⟨by simp [go_sem], HL.out, HRI.out⟩)
  rw [hF] at q
  exact q)
 have hzs : ((w.alloc (.cells #[.int .i64 0, .string ⟨#[]⟩, .int .i64 0] 46)).alloc (.cells #[.slice (some ⟨G i 1, 0, none⟩) W.ss[i].prep.length (C i 1)] 27)).heap.size = w.heap.size + 1 + 1 := by simp
 have H := jD h
 have HZ := jD hz
 have HW := jD hw
 have B0 := jD b0
 have HX0 := jD X0
 have HZS := jD hzs
 have HAT := jD hat
 clear h hz hw b0 X0 hzs hF hat
 go_enter Tryz.func69, Tryz.ntmps69
 go_wp2_with fail
 refine HF.out.mono ?_
 rintro e w1 ⟨rfl, hb1⟩
 have hs1 := hb1.size
 rw [HZS.out] at hs1
 have X1 := HX0.out.below hb1 HX0.out.lt
 have B1 := jD (bel_add' B0.out hb1 B0.out.size)
 have HX1 := jD X1
 clear hb1 X1
 go_wp2_with fail
 refine (read_ok t _ (by first | exact HWW.out.below (B1.out.alloc (by omega) _) | exact HWW.out.below B1.out) HRE.out).mono ?_
 rintro e w2 ⟨rfl, hb2⟩
 generalize hkk : kindN (cutA t) = kk at *
 generalize cutA (cutB t) = aa at *
 generalize cutB (cutB t) = bb at *
 have B2 := jD (show Below w.heap.size w (w2.alloc (.cells #[.int .i64 kk, .string aa, .string bb] 41)) from (bel_add' (B1.out.alloc (by omega) _) hb2 (by simp; omega)).alloc (by have := hb2.size; simp at this; omega) _)
 have X2 := jD (show RowTo (w2.alloc (.cells #[.int .i64 kk, .string aa, .string bb] 41)) w.heap.size 46 3 [.int .i64 0, .string ⟨#[]⟩, .int .i64 0] from (((HX1.out.alloc _).below hb2 (by simp; omega)).alloc _))
 have HGG := jD (show ∀ i j, i < W.ss.length → j < 4 → w.heap.size ≠ G i j from fun i j hi hj => by have := (H.out.ls i j hi hj).row.lt; omega)
 have hgr := H.out.rows.row.lt
 have hs2 : w.heap.size < (w2.alloc (.cells #[.int .i64 kk, .string aa, .string bb] 41)).heap.size := X2.out.lt
 have HS2 := jD hs2
 clear hb2 hs2
 go_wp2_with fail
 refine (HX.out _ (H.out.kept B2.out) (by have := HS2.out; omega)).mono ?_
 rintro e wB hp
 obtain rfl := hp.1
 have RB := X2.out.same (hp.2.2.2 w.heap.size HS2.out (by omega) (by omega) (by omega) HGG.out)
 have HP := jD hp
 have r0 := RB.cell (j := 0) (by simp)
 have r1 := RB.cell (j := 1) (by simp)
 have r2 := RB.cell (j := 2) (by simp)
 have s0 := RB.frozen 0
 have s1 := RB.frozen 1
 have s2 := RB.frozen 2
 simp only [gCZ, gCS] at r0 r1 r2
 have HRB := jD RB
 clear hp RB
 unfold ansV
 go_wp2
 refine bodyPost_ret (v := .agg #[.int .i64 r.2.kind, .string r.2.text, .int .i64 0]) (by simp [results, Tryz.results69, go_sem, r0, r1, r2]) rfl ?_
 exact HP.out.laid B2.out hb (nL _) HRB.out _ _ _
set_option maxHeartbeats 2000000 in
theorem execute_exec (base X S gR cR : Nat) (G C : Nat → Nat → Nat) (W : Wd) (i : Nat) (key val : ByteArray) (w : World) (h : OwnD w X S gR cR G C W) (lo : LoD base X S gR G W.ss.length) (hw : WorldOk W) (hb : base ≤ w.heap.size) (hi : i < W.ss.length) (hkz : key.size ≤ 8) (hvz : val.size ≤ 60) (hst : W.ss[i].st ≠ 2) (hW : Words w) :
  Calls Tryz.prog 45 #[.pointer (some ⟨X, 0, none⟩), .int .i64 i, .agg #[.int .i64 8, .string key, .string val]] w (ExPost w base X S gR G W.ss.length (didM W i 8 key val)) := by
 have hz := worldOk_sz hw
 have hXw := h.box.lt
 have hSw := h.blk.lt
 have x1 := h.box.cell (j := 1) (by simp)
 simp only [gCZ, gCS] at x1
 unfold slc at x1
 have c0 := h.st i hi
 have hii : (i : Int) < (W.ss.length : Int) := by omega
 have b0 : Below w.heap.size w ((w.alloc (.cells #[.int .i64 8, .string key, .string val] 41)).alloc (.cells #[.int .i64 0, .string ⟨#[]⟩, .int .i64 0] 46)) := ((Below.refl _ _).alloc (nL _) _).alloc (by simp) _
 have h0 := h.kept b0
 have X0 : RowTo ((w.alloc (.cells #[.int .i64 8, .string key, .string val] 41)).alloc (.cells #[.int .i64 0, .string ⟨#[]⟩, .int .i64 0] 46)) (w.heap.size + 1) 46 3 [.int .i64 0, .string ⟨#[]⟩, .int .i64 0] := by
  have := RowTo.whole (w.alloc (.cells #[.int .i64 8, .string key, .string val] 41)) #[.int .i64 0, .string ⟨#[]⟩, .int .i64 0] 46
  simpa using this
 have hzs : ((w.alloc (.cells #[.int .i64 8, .string key, .string val] 41)).alloc (.cells #[.int .i64 0, .string ⟨#[]⟩, .int .i64 0] 46)).heap.size = w.heap.size + 1 + 1 := by simp
 have hgr := h.rows.row.lt
 have hgg : ∀ i j, i < W.ss.length → j < 4 → w.heap.size + 1 ≠ G i j := fun i j hi hj => by have := (h.ls i j hi hj).row.lt; omega
 obtain ⟨r, hr⟩ : ∃ r, r = didM W i 8 key val := ⟨_, rfl⟩
 rw [← hr]
 have hbs : base ≤ ((w.alloc (.cells #[.int .i64 8, .string key, .string val] 41)).alloc (.cells #[.int .i64 0, .string ⟨#[]⟩, .int .i64 0] 46)).heap.size := by omega
 have HC := jD (show Calls Tryz.prog 69 #[.pointer (some ⟨X, 0, none⟩), .int .i64 i, .string key] ((w.alloc (.cells #[.int .i64 8, .string key, .string val] 41)).alloc (.cells #[.int .i64 0, .string ⟨#[]⟩, .int .i64 0] 46)) (ExPost ((w.alloc (.cells #[.int .i64 8, .string key, .string val] 41)).alloc (.cells #[.int .i64 0, .string ⟨#[]⟩, .int .i64 0] 46)) base X S gR G W.ss.length r) by
  rw [hr]
  rw [show didM W i 8 key val = (match atL W.ss[i].prep key with | none => (W, no' tNotPrep) | some t => did1 W i (kindN (cutA t)) (cutA (cutB t)) (cutB (cutB t))) by unfold didM; simp only [getD_at hi]; rw [if_pos trivial, if_neg hst]; cases atL W.ss[i].prep key <;> rfl]
  cases hat : atL W.ss[i].prep key
  ·exact (exec_none X S gR cR G C W i key _ h0 hw hi hat).mono fun e w' hh => ExPost.same h0 lo hz hbs hh.1 hh.2
  ·exact exec_some base X S gR cR G C W i key _ _ h0 lo hw hbs hi (hW.below b0) hat)
 have H := jD h
 have HZ := jD hz
 have HW := jD hw
 have B0 := jD b0
 have HX0 := jD X0
 have HZS := jD hzs
 have HG := jD hgg
 have HR := jD hr
 clear h hz hw b0 X0 hzs hgg hr h0 hbs
 have e2 : (W.ss[i].st == 2) = false := beq_eq_false_iff_ne.2 hst
 ·skip
  go_enter Tryz.func45, Tryz.ntmps45
  go_wp2_with fail
  refine HC.out.mono ?_
  rintro e wB hp
  obtain rfl := hp.1
  have RB := HX0.out.same (hp.2.2.2 (w.heap.size + 1) (by rw [HZS.out]; omega) (by omega) (by omega) (by omega) HG.out)
  have HP := jD hp
  have r0 := RB.cell (j := 0) (by simp)
  have r1 := RB.cell (j := 1) (by simp)
  have r2 := RB.cell (j := 2) (by simp)
  have s0 := RB.frozen 0
  have s1 := RB.frozen 1
  have s2 := RB.frozen 2
  simp only [gCZ, gCS] at r0 r1 r2
  have HRB := jD RB
  clear hp RB
  unfold ansV
  go_wp2
  refine bodyPost_ret (v := .agg #[.int .i64 r.2.kind, .string r.2.text, .int .i64 0]) (by simp [results, Tryz.results45, go_sem, r0, r1, r2]) rfl ?_
  exact HP.out.laid B0.out hb (by omega) HRB.out _ _ _
theorem execute_any (base X S gR cR : Nat) (G C : Nat → Nat → Nat) (W : Wd) (i : Nat) (k : Int) (key val : ByteArray) (w : World) (h : OwnD w X S gR cR G C W) (lo : LoD base X S gR G W.ss.length) (hw : WorldOk W) (hb : base ≤ w.heap.size) (hi : i < W.ss.length) (hg : checkE k key val = 0) (hW : Words w) :
  Calls Tryz.prog 45 #[.pointer (some ⟨X, 0, none⟩), .int .i64 i, .agg #[.int .i64 k, .string key, .string val]] w (ExPost w base X S gR G W.ss.length (didM W i k key val)) := by
 have g := good_of hg
 by_cases h8 : k = 8
 ·subst h8
  by_cases hst : W.ss[i].st = 2
  ·have q := execute_failed base X S gR cR G C W i 8 key val w h lo hw hb hi g.key8 g.v60 hst (by omega)
   rw [show didM W i 8 key val = did1 W i 8 key val by rw [show did1 W i 8 key val = (W, no' tFailed) by unfold did1; simp only [getD_at hi]; rw [if_pos ⟨hst, by omega⟩]]; unfold didM; simp only [getD_at hi]; rw [if_pos trivial, if_pos hst]]
   exact q
  ·exact execute_exec base X S gR cR G C W i key val w h lo hw hb hi g.key8 g.v60 hst hW
 ·rw [show didM W i k key val = did1 W i k key val by unfold didM; rw [if_neg h8]]
  exact execute_plain base X S gR cR G C W i k key val w h lo hw hb hi g.key8 g.v60 g.lo g.hi h8
end Go.Proofs.YtpbaobmegomfpabGreatDoor
namespace Go.Proofs.YtpbaobmegomfpabGreatDoor
open Go.RowKit Go.Maps Go.WideMaps
theorem key_string {key : Value} {l : Lit} (h : keyOf Tryz.prog 9 key = some l) : ∃ s, key = .string s ∧ l = kl s := by
 cases key <;> simp [keyOf, Tryz.underlying9, mapKey] at h
 exact ⟨_, rfl, h.2.symm⟩
def FitsRel (w : World) (W : Wd) (b r n : Nat) (D : DataW Unit) (wr : World) : Prop :=
 ∃ left cnt, wr.ranges Tryz.prog 9 (plainElem Tryz.prog 3) b r n D left cnt ∧ (∀ key, Maps.has D (kl key) = true → left (kl key) = true ∨ cntL (W.ss.flatMap (·.wr)) key ≤ 1) ∧ Below w.heap.size w wr
set_option maxHeartbeats 4000000 in
theorem rowsFit_any (r s : Value) (W : Wd) (w : World) (hW : Wld w w.heap.size r s W) (hr100 : W.rows.length ≤ 100) (hrise : risingB W.rows = true) (h8 : W.ss.length ≤ 8) (hw100 : ∀ i (hi : i < W.ss.length), W.ss[i].wr.length ≤ 100) :
  Calls Tryz.prog 92 #[.agg #[r, s]] w fun e w' => e = .returned (.bool (cntOk W && decide ((allL W).length ≤ 100))) ∧ Below w.heap.size w w' := by
 have HWW := jD hW
 obtain ⟨A, c, rfl, hc⟩ := hW.sess.form
 obtain ⟨D, d, rfl, hd⟩ := hW.rows.form
 have HN := jD hw100
 have HI := jD hrise
 clear hw100 hrise hW
 have b0 : Below w.heap.size w (w.alloc (.cells #[.slice D W.rows.length d, .slice A W.ss.length c] 39)) := (Below.refl _ _).alloc (nL _) _
 go_enter Tryz.func92, Tryz.ntmps92
 go_wp2_with fail
 refine (countWriters_any _ _ W _ (HWW.out.step b0) hr100 HI.out h8 HN.out).mono ?_
 rintro e w1 ⟨b, n, M, rfl, hown, hmap, hn, hb, hb1⟩
 have HB := jD (bel_add' b0 hb1 b0.size)
 have HM := jD hmap
 have HO := jD hown
 have hbw : w.heap.size ≤ b := by have := b0.size; omega
 clear hown hmap hb1
 go_wp2_with (first | (at_range; refine wpList_range_own _ rfl _ 162 rfl 9 3 strLaw Tryz.underlying162 _ b n M rfl HO.out ?_; intro w0 hrg0 hg0 hs0) | go_in)
 go_frame
 have HR0 := jD hrg0
 have HB0 := jD (HB.out.grown hg0 HB.out.size (fun k hk => by cases hk))
 have hrr : w.heap.size ≤ w1.heap.size := HB.out.size
 clear hrg0 hg0 hs0 HO
 go_loopw [5] (fun _ wr => FitsRel w W b w1.heap.size n M wr) (fun _ wr => wr.rangeLeft b w1.heap.size)
 case atStart => exact ⟨_, _, HR0.out, fun key h => .inl h, HB0.out⟩
 case round =>
  clear HR0 HB0
  obtain ⟨left, cnt, hrg, hok, bel⟩ := hrel
  have HG := jD hrg
  have HK := jD hok
  have HB1 := jD bel
  clear hrg hok bel
  go_wp2_with (first | (at_next; refine wpList_next_ranges _ rfl _ rfl 9 strLaw (plainElem Tryz.prog 3) Value.string (Value.int .i64) (fun key l h => (by obtain ⟨x, hx, _⟩ := key_string h; exact ⟨x, hx⟩)) (fun v y hv => (by obtain ⟨q, hq, _⟩ := plainElem_int_inv Tryz.underlying3 hv; exact ⟨q, hq⟩)) b w1.heap.size n _ _ _ rfl HG.out ?_ ?_) | go_in)
  ·intro hc0 hl0
   have HF := jD (cntOk_yes (W := W) (fun key => by
    cases hh : Maps.has M (kl key)
    ·have h1 := HM.out.at_ key
     rw [atKey_of_not_has hh] at h1
     have := lit_inj h1
     omega
    ·rcases HK.out key hh with h | h
     ·rw [hl0] at h; cases h
     ·exact h))
   have HZ := jD HM.out.size
   clear hc0 hl0
   go_wp2_with (first | (at_len; refine wpList_len_own _ rfl _ 162 rfl 9 3 Tryz.underlying162 _ b n M rfl HG.out.owns ?_) | go_in)
   go_ret
   refine ⟨?_, HB1.out⟩
   rw [HF.out, HZ.out, Bool.true_and]
   simp
   omega
  ·intro x q l y yp w2 cnt2 hkey hlx hval hat hrg2 hlt2 hg2 hs2 hen
   obtain ⟨x', ex, rfl⟩ := key_string hkey
   obtain rfl : x = x' := by injection ex
   obtain ⟨q', eq', hy, _⟩ := plainElem_int_inv Tryz.underlying3 hval
   obtain rfl : q = q' := by injection eq'
   have hq : q = (cntL (W.ss.flatMap (·.wr)) x : Int) := by
    have h1 := hat (.lit (.int .i64 0))
    rw [HM.out.at_ x, (Prod.mk.inj hy).1] at h1
    exact (lit_inj h1).symm
   subst hq
   have HH := jD hrg2
   have HB2 := jD (HB1.out.grown hg2 HB1.out.size (fun k hk => by injection hk with hk; omega))
   have HLQ := jD (show wr.rangeLeft b w1.heap.size = cnt from HG.out.left_eq)
   clear hrg2 hg2 hs2 hkey hlx hval hat ex eq' hy
   by_cases hgt : 1 < cntL (W.ss.flatMap (·.wr)) x
   ·have HP := jD (cntOk_no hgt)
    have e1 : decide ((1 : Int) < (cntL (W.ss.flatMap (·.wr)) x : Int)) = true := decide_eq_true (by omega)
    have e2 : decide (1 < cntL (W.ss.flatMap (·.wr)) x) = true := decide_eq_true hgt
    go_wp2
    go_ret
    exact ⟨by rw [HP.out]; rfl, HB2.out⟩
   ·have e1 : decide ((1 : Int) < (cntL (W.ss.flatMap (·.wr)) x : Int)) = false := decide_eq_false (by omega)
    have e2 : decide (1 < cntL (W.ss.flatMap (·.wr)) x) = false := decide_eq_false hgt
    have HX := jD hgt
    clear hgt
    go_wp2
    go_roundw
    case rel =>
     refine ⟨_, _, HH.out, fun key hk => ?_, HB2.out⟩
     by_cases e : key = x
     ·subst e; exact .inr (by have := HX.out; omega)
     ·rcases HK.out key hk with h | h
      ·left; rw [h, sameKey_ne (kl_ne e)]; rfl
      ·exact .inr h
    case measure => rw [HH.out.left_eq, HLQ.out]; exact hlt2
end Go.Proofs.YtpbaobmegomfpabGreatDoor
namespace Go.Proofs.YtpbaobmegomfpabGreatDoor
open Go.RowKit
def GoodTo (l : PL) (kind : Int) (k : Nat) : Prop := (∀ j (h : j < l.length), j < k → checkE kind l[j].1 l[j].2 = 0) ∧ ∀ j (h : j + 1 < l.length), j + 1 < k → ltB l[j].1 l[j + 1].1 = true
theorem GoodTo.zero {l : PL} {kind : Int} {k : Nat} (h : GoodTo l kind k) (hk : k = 0) {hlt : k < l.length} (hc : checkE kind l[k].1 l[k].2 = 0) : GoodTo l kind (k + 1) := by
 subst hk
 refine ⟨fun j hj hjk => ?_, fun j hj hjk => by omega⟩
 obtain rfl : j = 0 := by omega
 exact hc
theorem GoodTo.succ {l : PL} {kind : Int} {k : Nat} (h : GoodTo l kind k) (hk : k ≠ 0) {hlt : k < l.length} (hc : checkE kind l[k].1 l[k].2 = 0) (hq : ltB l[k - 1].1 l[k].1 = true) : GoodTo l kind (k + 1) := by
 refine ⟨fun j hj hjk => ?_, fun j hj hjk => ?_⟩
 ·by_cases e : j = k
  ·subst e; exact hc
  ·exact h.1 j hj (by omega)
 ·by_cases e : j + 1 = k
  ·subst e; exact hq
  ·exact h.2 j hj (by omega)
theorem GoodTo.all {l : PL} {kind : Int} {k most : Nat} (h : GoodTo l kind k) (hk : l.length ≤ k) (hm : l.length ≤ most) : pairsB l most kind = true :=
 pairsB_yes (fun j hj => h.1 j hj (by omega)) (fun j hj => h.2 j hj (by omega)) hm
theorem pairsB_fall' {l : PL} {most : Nat} {kind : Int} {k : Nat} (hk : k < l.length) (h0 : k ≠ 0) (h : ltB l[k - 1].1 l[k].1 = false) : pairsB l most kind = false := by
 obtain ⟨j, rfl⟩ : ∃ j, k = j + 1 := ⟨k - 1, by omega⟩
 exact pairsB_fall hk h
theorem leB_yes {a b : ByteArray} (h : ltB b a = false) : (Op.bytesLess a.toList b.toList || a.toList == b.toList) = true := by
 cases h1 : ltB a b
 ·have := ltB_total h h1
  subst this
  simp
 ·unfold ltB at h1; rw [h1]; rfl
theorem leB_no {a b : ByteArray} (h : ltB b a = true) : Op.bytesLess a.toList b.toList = false ∧ (a.toList == b.toList) = false :=
 ⟨ltB_asymm h, eqB_false.2 (fun e => ltB_ne h e.symm)⟩
def FitRel (w : World) (l : PL) (kind : Int) (k : Nat) (wr : World) : Prop := GoodTo l kind k ∧ Below w.heap.size w wr
set_option maxHeartbeats 1000000 in
theorem listFits_any (v : Value) (l : PL) (kind : Int) (limit : Nat) (w : World) (hl : Lst w w.heap.size v l) (hW : Words w) (hlim : limit ≤ 1000) :
  Calls Tryz.prog 90 #[v, .int .i64 kind, .int .i64 limit] w fun e w' => e = .returned (.bool (pairsB l limit kind)) ∧ Below w.heap.size w w' := by
 obtain ⟨A, c, rfl, hc⟩ := hl.form
 have hby := hl.bytes
 have HL := jD hl
 have HW := jD hW
 clear hl hW
 by_cases hlen : l.length ≤ limit
 ·have hd : decide ((limit : Int) < (l.length : Int)) = false := decide_eq_false (by omega)
  have hd' : decide (limit < l.length) = false := decide_eq_false (by omega)
  go_enter Tryz.func90, Tryz.ntmps90
  go_wp2
  go_loopw [15] (fun i wr => ∃ k : Nat, k ≤ l.length ∧ i = .int .i64 k ∧ FitRel w l kind k wr) (fun i _ => l.length - (intOf i).toNat)
  case atStart => exact ⟨0, by omega, rfl, ⟨fun j _ h => by omega, fun j _ h => by omega⟩, Below.refl _ _⟩
  case round =>
   obtain ⟨k, hk, rfl, good, bel⟩ := hrel
   by_cases hlt : k < l.length
   ·obtain ⟨b, off, rfl, hb, c0, c1⟩ := HL.out.pt hlt
    obtain ⟨z0, z1⟩ := HL.out.key hlt
    have d0 := (bel.cell (p := ⟨b, off + k * 2, none⟩) hb).trans c0
    have d1 := (bel.cell (p := ⟨b, off + k * 2 + 1, none⟩) hb).trans c1
    have hbw : b < wr.heap.size := Nat.lt_of_lt_of_le hb bel.size
    have HG := jD good
    have HB := jD bel
    clear good bel c0 c1
    by_cases hk0 : k = 0
    ·have g0 : decide ((0 : Int) < (k : Int)) = false := decide_eq_false (by omega)
     have g1 : decide (0 < k) = false := decide_eq_false (by omega)
     have HK := jD hk0
     clear hk0
     go_wp2
     go_quiet (fail)
     go_wp2_with fail
     have B1 := below_drewN (HB.out.alloc HB.out.size (.cells #[.string l[k].1, .string l[k].2] 60)) nq
     by_cases hce : checkE kind l[k].1 l[k].2 = 0
     ·have HC := jD hce
      clear hce
      refine (check_any kind l[k].1 l[k].2 _ (by unfold maxLen; omega) (by unfold maxLen; omega) (HW.out.below B1)).mono ?_
      rw [HC.out]
      rintro e w2 ⟨rfl, hb2⟩
      go_wp2
      go_roundw
      case rel => exact ⟨k + 1, by omega, by go_num, HG.out.zero HK.out HC.out, bel_trans B1 hb2⟩
      case measure => simp [intOf]; omega
     ·have HP := jD (pairsB_bad (most := limit) hlt hce)
      have hne : (checkE kind l[k].1 l[k].2 != 0) = true := bne_iff_ne.2 hce
      clear hce
      refine (check_any kind l[k].1 l[k].2 _ (by unfold maxLen; omega) (by unfold maxLen; omega) (HW.out.below B1)).mono ?_
      rintro e w2 ⟨rfl, hb2⟩
      go_wp2
      go_ret
      exact ⟨by rw [HP.out]; rfl, bel_trans B1 hb2⟩
    ·obtain ⟨b', off', e', _, c0', _⟩ := HL.out.pt (k := k - 1) (by omega)
     obtain ⟨rfl, rfl⟩ : b = b' ∧ off = off' := by injection e' with e'; injection e' with e1 e2; exact ⟨e1, e2⟩
     clear e'
     have d0' := (HB.out.cell (p := ⟨b, off + (k - 1) * 2, none⟩) hb).trans c0'
     have g0 : decide ((0 : Int) < (k : Int)) = true := decide_eq_true (by omega)
     have g1 : decide (0 < k) = true := decide_eq_true (by omega)
     have q1 : IntKind.i64.wrap ((k : Int) - 1) = (k : Int) - 1 := IntWalk.i64_in _ (by omega)
     have q2 : ((k : Int) - 1).toNat = k - 1 := by omega
     have q3 : (0 : Int) ≤ (k : Int) - 1 := by omega
     have q4 : (1 : Int) ≤ (k : Int) := by omega
     have q5 : (k : Int) - 1 < (l.length : Int) := by omega
     clear c0'
     cases hq : ltB l[k - 1].1 l[k].1
     ·have HP := jD (pairsB_fall' (most := limit) (kind := kind) hlt hk0 hq)
      have e1 := leB_yes hq
      clear hq
      go_wp2
      go_quiet (fail)
      go_wp2
      go_ret
      exact ⟨by rw [HP.out]; rfl, below_drewN (HB.out.alloc HB.out.size _) nq⟩
     obtain ⟨e1, e2⟩ := leB_no hq
     have HQ := jD hq
     clear hq
     go_wp2
     go_quiet (fail)
     go_wp2_with fail
     have B1 := below_drewN (HB.out.alloc HB.out.size (.cells #[.string l[k].1, .string l[k].2] 60)) nq
     by_cases hce : checkE kind l[k].1 l[k].2 = 0
     ·have HC := jD hce
      clear hce
      refine (check_any kind l[k].1 l[k].2 _ (by unfold maxLen; omega) (by unfold maxLen; omega) (HW.out.below B1)).mono ?_
      rw [HC.out]
      rintro e w2 ⟨rfl, hb2⟩
      go_wp2
      go_roundw
      case rel => exact ⟨k + 1, by omega, by go_num, HG.out.succ hk0 HC.out HQ.out, bel_trans B1 hb2⟩
      case measure => simp [intOf]; omega
     ·have HP := jD (pairsB_bad (most := limit) hlt hce)
      have hne : (checkE kind l[k].1 l[k].2 != 0) = true := bne_iff_ne.2 hce
      clear hce
      refine (check_any kind l[k].1 l[k].2 _ (by unfold maxLen; omega) (by unfold maxLen; omega) (HW.out.below B1)).mono ?_
      rintro e w2 ⟨rfl, hb2⟩
      go_wp2
      go_ret
      exact ⟨by rw [HP.out]; rfl, bel_trans B1 hb2⟩
   ·have HP := jD (good.all (by omega) hlen)
    go_wp2
    go_ret
    exact ⟨by rw [HP.out]; rfl, bel⟩
 ·have hd : decide ((limit : Int) < (l.length : Int)) = true := decide_eq_true (by omega)
  have HP := jD (pairsB_long (kind := kind) hlen)
  go_enter Tryz.func90, Tryz.ntmps90
  go_wp2
  go_ret
  exact ⟨by rw [HP.out]; rfl, Below.refl _ _⟩
end Go.Proofs.YtpbaobmegomfpabGreatDoor
