/-
  Texts of the proof, one behind the other: BExe2, BExe3, BExe4, Say1, Say1v.
-/
import Derived.Test.YtpbaobmegomfpabGreatDoorM13
import Derived.Test.YtpbaobmegomfpabGreatDoorRows
import Derived.Test.YtpbaobmegomfpabGreatDoorM1
import Derived.WalkKit
import Derived.WalkSpells
import Derived.WalkLawsBesides
import Derived.Deep.QuietTactic
import Derived.BigQuiet
import Derived.Lib.Hide
set_option linter.unusedVariables false
set_option linter.unusedSimpArgs false
set_option maxRecDepth 100000
open List renaming getElem_toArray → gTA, getElem_cons_zero → gCZ, getElem_cons_succ → gCS, setIfInBounds_toArray → sTA, set_cons_zero → sCZ, set_cons_succ → sCS
open Go.Lib renaming hid → jD
open Nat renaming le_refl → nL
namespace Go.Proofs.YtpbaobmegomfpabGreatDoor
open Go.RowKit
set_option maxHeartbeats 2000000 in
theorem execute_set (base X S gR cR : Nat) (G C : Nat → Nat → Nat) (W : Wd) (i : Nat) (key val : ByteArray) (w : World) (h : OwnD w X S gR cR G C W) (lo : LoD base X S gR G W.ss.length) (hw : WorldOk W) (hb : base ≤ w.heap.size) (hi : i < W.ss.length) (hkz : key.size ≤ 8) (hvz : val.size ≤ 60) (hst : W.ss[i].st ≠ 2) :
  Calls Tryz.prog 45 #[.pointer (some ⟨X, 0, none⟩), .int .i64 i, .agg #[.int .i64 9, .string key, .string val]] w (ExPost w base X S gR G W.ss.length (did1 W i 9 key val)) := by
 have hz := worldOk_sz hw
 have hXw := h.box.lt
 have hSw := h.blk.lt
 have x1 := h.box.cell (j := 1) (by simp)
 simp only [gCZ, gCS] at x1
 unfold slc at x1
 have c0 := h.st i hi
 have hii : (i : Int) < (W.ss.length : Int) := by omega
 have b0 : Below w.heap.size w ((w.alloc (.cells #[.int .i64 9, .string key, .string val] 41)).alloc (.cells #[.int .i64 0, .string ⟨#[]⟩, .int .i64 0] 46)) := ((Below.refl _ _).alloc (nL _) _).alloc (by simp) _
 have h0 := h.kept b0
 have X0 : RowTo ((w.alloc (.cells #[.int .i64 9, .string key, .string val] 41)).alloc (.cells #[.int .i64 0, .string ⟨#[]⟩, .int .i64 0] 46)) (w.heap.size + 1) 46 3 [.int .i64 0, .string ⟨#[]⟩, .int .i64 0] := by
  have := RowTo.whole (w.alloc (.cells #[.int .i64 9, .string key, .string val] 41)) #[.int .i64 0, .string ⟨#[]⟩, .int .i64 0] 46
  simpa using this
 have hzs : ((w.alloc (.cells #[.int .i64 9, .string key, .string val] 41)).alloc (.cells #[.int .i64 0, .string ⟨#[]⟩, .int .i64 0] 46)).heap.size = w.heap.size + 1 + 1 := by simp
 have hgr := h.rows.row.lt
 have hgg : ∀ i j, i < W.ss.length → j < 4 → w.heap.size + 1 ≠ G i j := fun i j hi hj => by have := (h.ls i j hi hj).row.lt; omega
 obtain ⟨r, hr⟩ : ∃ r, r = did1 W i 9 key val := ⟨_, rfl⟩
 rw [← hr]
 have hbs : base ≤ ((w.alloc (.cells #[.int .i64 9, .string key, .string val] 41)).alloc (.cells #[.int .i64 0, .string ⟨#[]⟩, .int .i64 0] 46)).heap.size := by omega
 have HC := jD (show ∀ (w9 : World), OwnD w9 X S gR cR G C W → base ≤ w9.heap.size → Calls Tryz.prog 70 #[.pointer (some ⟨S, i * 5 + 1, none⟩), .agg #[.int .i64 9, .string key, .string val], .int .i64 6] w9 (ExPost w9 base X S gR G W.ss.length r) from fun w9 h0 hbs => by
  rw [hr]
  have hrs := (pairsB_rising (hw.sess i hi).set).1
  rw [show did1 W i 9 key val = (if fndL (W.ss[i].li 0) key = false ∧ 6 ≤ (W.ss[i].li 0).length then (W, no' tFull) else (W.put i { W.ss[i] with set := insL W.ss[i].set key val }, ok')) by unfold did1; simp only [getD_at hi, plus_ins hrs]; rw [if_neg (fun hh => hst hh.1)]; simp [Sess.li]]
  exact keep_any base X S gR cR G C W i 0 9 _ h0 lo hz hbs hi (by omega) key val hkz hvz hrs _ rfl (fun k hk => by rcases j4 hk with rfl | rfl | rfl | rfl <;> rfl))
 have H0 := jD h0
 have HG2 := jD (show ∀ i j, i < W.ss.length → j < 4 → w.heap.size ≠ G i j from fun i j hi hj => by have := (h.ls i j hi hj).row.lt; omega)
 have H := jD h
 have HZ := jD hz
 have HW := jD hw
 have B0 := jD b0
 have HX0 := jD X0
 have HZS := jD hzs
 have HG := jD hgg
 have HR := jD hr
 clear h hz hw b0 X0 hzs hgg hr h0
 have e2 : (W.ss[i].st == 2) = false := beq_eq_false_iff_ne.2 hst
 ·skip
  go_enter Tryz.func45, Tryz.ntmps45
  go_wp2_with fail
  have hsz0 := HZS.out
  have y0 : ((w.alloc (.cells #[.int .i64 9, .string key, .string val] 41)).alloc (.cells #[.int .i64 0, .string ⟨#[]⟩, .int .i64 0] 46)).cell? ⟨w.heap.size, 0, none⟩ = some (.int .i64 9) := by simp [go_sem]
  have y1 : ((w.alloc (.cells #[.int .i64 9, .string key, .string val] 41)).alloc (.cells #[.int .i64 0, .string ⟨#[]⟩, .int .i64 0] 46)).cell? ⟨w.heap.size, 1, none⟩ = some (.string key) := by simp [go_sem]
  have y2 : ((w.alloc (.cells #[.int .i64 9, .string key, .string val] 41)).alloc (.cells #[.int .i64 0, .string ⟨#[]⟩, .int .i64 0] 46)).cell? ⟨w.heap.size, 2, none⟩ = some (.string val) := by simp [go_sem]
  generalize hA : ((w.alloc (.cells #[.int .i64 9, .string key, .string val] 41)).alloc (.cells #[.int .i64 0, .string ⟨#[]⟩, .int .i64 0] 46)) = w8 at *
  have hw8 : w.heap.size < w8.heap.size := by omega
  have dS := jD (show w8.drew.cell? ⟨w.heap.size, 0, none⟩ = some (.int .i64 9) ∧ w8.drew.cell? ⟨w.heap.size, 1, none⟩ = some (.string key) ∧ w8.drew.cell? ⟨w.heap.size, 2, none⟩ = some (.string val) from ⟨y0, y1, y2⟩)
  go_region_held3 (fun wx => wx.cell? ⟨w.heap.size, 0, none⟩ = some (.int .i64 9) ∧ wx.cell? ⟨w.heap.size, 1, none⟩ = some (.string key) ∧ wx.cell? ⟨w.heap.size, 2, none⟩ = some (.string val))
   (first
    | with_reducible exact ⟨y0, y1, y2⟩
    | with_reducible exact dS.out
    | with_reducible exact ⟨cell_set3' z0 (by omega), cell_set3' z1 (by omega), cell_set3' z2 (by omega)⟩
    | with_reducible exact ⟨z0, z1, z2⟩)
   (first
    | (
     go_at_call 70
     refine (HC.out _ (by first | exact H0.out | exact H0.out.kept (Below.refl _ _).drew | exact H0.out.kept (below_drewN (Below.refl _ _) _)) (by first | exact hbs | assumption)).mono ?_
     rintro e wB ⟨rfl, hp1, hp2, hp3⟩
     have hpB : ExPost w8 base X S gR G W.ss.length r (.returned (ansV r.2.kind r.2.text)) wB := ⟨rfl, hp1, ⟨hp2.os, hp2.tape, hp2.output, hp2.size, hp2.block⟩, hp3⟩
     have hxB := hpB.2.2.2 w.heap.size hw8 (by omega) (by omega) (by omega) HG2.out
     have z0 := (World.cell?_of_block (a := ⟨w.heap.size, 0, none⟩) hxB).trans y0
     have z1 := (World.cell?_of_block (a := ⟨w.heap.size, 1, none⟩) hxB).trans y1
     have z2 := (World.cell?_of_block (a := ⟨w.heap.size, 2, none⟩) hxB).trans y2
     have RB := HX0.out.same (hpB.2.2.2 (w.heap.size + 1) (by omega) (by omega) (by omega) (by omega) HG.out)
     have r0 := RB.cell (j := 0) (by simp)
     have r1 := RB.cell (j := 1) (by simp)
     have r2 := RB.cell (j := 2) (by simp)
     have s0 := RB.frozen 0
     have s1 := RB.frozen 1
     have s2 := RB.frozen 2
     simp only [gCZ, gCS] at r0 r1 r2
     unfold ansV))
  have HP := jD hpB
  have HRB := jD RB
  clear hpB hp1 hp2 hp3 hxB z0 z1 z2 RB
  go_wp2
  refine bodyPost_ret (v := .agg #[.int .i64 r.2.kind, .string r.2.text, .int .i64 0]) (by simp [results, Tryz.results45, go_sem, r0, r1, r2]) rfl ?_
  exact HP.out.laid B0.out hb (by omega) HRB.out _ _ _
set_option maxHeartbeats 2000000 in
theorem execute_prep (base X S gR cR : Nat) (G C : Nat → Nat → Nat) (W : Wd) (i : Nat) (key val : ByteArray) (w : World) (h : OwnD w X S gR cR G C W) (lo : LoD base X S gR G W.ss.length) (hw : WorldOk W) (hb : base ≤ w.heap.size) (hi : i < W.ss.length) (hkz : key.size ≤ 8) (hvz : val.size ≤ 60) (hst : W.ss[i].st ≠ 2) :
  Calls Tryz.prog 45 #[.pointer (some ⟨X, 0, none⟩), .int .i64 i, .agg #[.int .i64 11, .string key, .string val]] w (ExPost w base X S gR G W.ss.length (did1 W i 11 key val)) := by
 have hz := worldOk_sz hw
 have hXw := h.box.lt
 have hSw := h.blk.lt
 have x1 := h.box.cell (j := 1) (by simp)
 simp only [gCZ, gCS] at x1
 unfold slc at x1
 have c0 := h.st i hi
 have hii : (i : Int) < (W.ss.length : Int) := by omega
 have b0 : Below w.heap.size w ((w.alloc (.cells #[.int .i64 11, .string key, .string val] 41)).alloc (.cells #[.int .i64 0, .string ⟨#[]⟩, .int .i64 0] 46)) := ((Below.refl _ _).alloc (nL _) _).alloc (by simp) _
 have h0 := h.kept b0
 have X0 : RowTo ((w.alloc (.cells #[.int .i64 11, .string key, .string val] 41)).alloc (.cells #[.int .i64 0, .string ⟨#[]⟩, .int .i64 0] 46)) (w.heap.size + 1) 46 3 [.int .i64 0, .string ⟨#[]⟩, .int .i64 0] := by
  have := RowTo.whole (w.alloc (.cells #[.int .i64 11, .string key, .string val] 41)) #[.int .i64 0, .string ⟨#[]⟩, .int .i64 0] 46
  simpa using this
 have hzs : ((w.alloc (.cells #[.int .i64 11, .string key, .string val] 41)).alloc (.cells #[.int .i64 0, .string ⟨#[]⟩, .int .i64 0] 46)).heap.size = w.heap.size + 1 + 1 := by simp
 have hgr := h.rows.row.lt
 have hgg : ∀ i j, i < W.ss.length → j < 4 → w.heap.size + 1 ≠ G i j := fun i j hi hj => by have := (h.ls i j hi hj).row.lt; omega
 obtain ⟨r, hr⟩ : ∃ r, r = did1 W i 11 key val := ⟨_, rfl⟩
 rw [← hr]
 have hbs : base ≤ ((w.alloc (.cells #[.int .i64 11, .string key, .string val] 41)).alloc (.cells #[.int .i64 0, .string ⟨#[]⟩, .int .i64 0] 46)).heap.size := by omega
 have HC := jD (show ∀ (w9 : World), OwnD w9 X S gR cR G C W → base ≤ w9.heap.size → Calls Tryz.prog 70 #[.pointer (some ⟨S, i * 5 + 2, none⟩), .agg #[.int .i64 11, .string key, .string val], .int .i64 6] w9 (ExPost w9 base X S gR G W.ss.length r) from fun w9 h0 hbs => by
  rw [hr]
  have hrs := (pairsB_rising (hw.sess i hi).prep).1
  rw [show did1 W i 11 key val = (if fndL (W.ss[i].li 1) key = false ∧ 6 ≤ (W.ss[i].li 1).length then (W, no' tFull) else (W.put i { W.ss[i] with prep := insL W.ss[i].prep key val }, ok')) by unfold did1; simp only [getD_at hi, plus_ins hrs]; rw [if_neg (fun hh => hst hh.1)]; simp [Sess.li]]
  exact keep_any base X S gR cR G C W i 1 11 _ h0 lo hz hbs hi (by omega) key val hkz hvz hrs _ rfl (fun k hk => by rcases j4 hk with rfl | rfl | rfl | rfl <;> rfl))
 have H0 := jD h0
 have HG2 := jD (show ∀ i j, i < W.ss.length → j < 4 → w.heap.size ≠ G i j from fun i j hi hj => by have := (h.ls i j hi hj).row.lt; omega)
 have H := jD h
 have HZ := jD hz
 have HW := jD hw
 have B0 := jD b0
 have HX0 := jD X0
 have HZS := jD hzs
 have HG := jD hgg
 have HR := jD hr
 clear h hz hw b0 X0 hzs hgg hr h0
 have e2 : (W.ss[i].st == 2) = false := beq_eq_false_iff_ne.2 hst
 ·skip
  go_enter Tryz.func45, Tryz.ntmps45
  go_wp2_with fail
  have hsz0 := HZS.out
  have y0 : ((w.alloc (.cells #[.int .i64 11, .string key, .string val] 41)).alloc (.cells #[.int .i64 0, .string ⟨#[]⟩, .int .i64 0] 46)).cell? ⟨w.heap.size, 0, none⟩ = some (.int .i64 11) := by simp [go_sem]
  have y1 : ((w.alloc (.cells #[.int .i64 11, .string key, .string val] 41)).alloc (.cells #[.int .i64 0, .string ⟨#[]⟩, .int .i64 0] 46)).cell? ⟨w.heap.size, 1, none⟩ = some (.string key) := by simp [go_sem]
  have y2 : ((w.alloc (.cells #[.int .i64 11, .string key, .string val] 41)).alloc (.cells #[.int .i64 0, .string ⟨#[]⟩, .int .i64 0] 46)).cell? ⟨w.heap.size, 2, none⟩ = some (.string val) := by simp [go_sem]
  generalize hA : ((w.alloc (.cells #[.int .i64 11, .string key, .string val] 41)).alloc (.cells #[.int .i64 0, .string ⟨#[]⟩, .int .i64 0] 46)) = w8 at *
  have hw8 : w.heap.size < w8.heap.size := by omega
  have dS := jD (show w8.drew.cell? ⟨w.heap.size, 0, none⟩ = some (.int .i64 11) ∧ w8.drew.cell? ⟨w.heap.size, 1, none⟩ = some (.string key) ∧ w8.drew.cell? ⟨w.heap.size, 2, none⟩ = some (.string val) from ⟨y0, y1, y2⟩)
  go_region_held3 (fun wx => wx.cell? ⟨w.heap.size, 0, none⟩ = some (.int .i64 11) ∧ wx.cell? ⟨w.heap.size, 1, none⟩ = some (.string key) ∧ wx.cell? ⟨w.heap.size, 2, none⟩ = some (.string val))
   (first
    | with_reducible exact ⟨y0, y1, y2⟩
    | with_reducible exact dS.out
    | with_reducible exact ⟨cell_set3' z0 (by omega), cell_set3' z1 (by omega), cell_set3' z2 (by omega)⟩
    | with_reducible exact ⟨z0, z1, z2⟩)
   (first
    | (
     go_at_call 70
     refine (HC.out _ (by first | exact H0.out | exact H0.out.kept (Below.refl _ _).drew | exact H0.out.kept (below_drewN (Below.refl _ _) _)) (by first | exact hbs | assumption)).mono ?_
     rintro e wB ⟨rfl, hp1, hp2, hp3⟩
     have hpB : ExPost w8 base X S gR G W.ss.length r (.returned (ansV r.2.kind r.2.text)) wB := ⟨rfl, hp1, ⟨hp2.os, hp2.tape, hp2.output, hp2.size, hp2.block⟩, hp3⟩
     have hxB := hpB.2.2.2 w.heap.size hw8 (by omega) (by omega) (by omega) HG2.out
     have z0 := (World.cell?_of_block (a := ⟨w.heap.size, 0, none⟩) hxB).trans y0
     have z1 := (World.cell?_of_block (a := ⟨w.heap.size, 1, none⟩) hxB).trans y1
     have z2 := (World.cell?_of_block (a := ⟨w.heap.size, 2, none⟩) hxB).trans y2
     have RB := HX0.out.same (hpB.2.2.2 (w.heap.size + 1) (by omega) (by omega) (by omega) (by omega) HG.out)
     have r0 := RB.cell (j := 0) (by simp)
     have r1 := RB.cell (j := 1) (by simp)
     have r2 := RB.cell (j := 2) (by simp)
     have s0 := RB.frozen 0
     have s1 := RB.frozen 1
     have s2 := RB.frozen 2
     simp only [gCZ, gCS] at r0 r1 r2
     unfold ansV))
  have HP := jD hpB
  have HRB := jD RB
  clear hpB hp1 hp2 hp3 hxB z0 z1 z2 RB
  go_wp2
  refine bodyPost_ret (v := .agg #[.int .i64 r.2.kind, .string r.2.text, .int .i64 0]) (by simp [results, Tryz.results45, go_sem, r0, r1, r2]) rfl ?_
  exact HP.out.laid B0.out hb (by omega) HRB.out _ _ _
theorem cell_new1 {w : World} {o : Obj} {p : Addr} {u : Value} (hp : p.block < w.heap.size) (h : w.cell? p = some u) : (w.alloc o).cell? p = some u := (((Below.refl w.heap.size w).alloc (nL _) o).cell hp).trans h
set_option maxHeartbeats 2000000 in
theorem execute_get (base X S gR cR : Nat) (G C : Nat → Nat → Nat) (W : Wd) (i : Nat) (key val : ByteArray) (w : World) (h : OwnD w X S gR cR G C W) (lo : LoD base X S gR G W.ss.length) (hw : WorldOk W) (hb : base ≤ w.heap.size) (hi : i < W.ss.length) (hkz : key.size ≤ 8) (hvz : val.size ≤ 60) (hst : W.ss[i].st ≠ 2) :
  Calls Tryz.prog 45 #[.pointer (some ⟨X, 0, none⟩), .int .i64 i, .agg #[.int .i64 6, .string key, .string val]] w (ExPost w base X S gR G W.ss.length (did1 W i 6 key val)) := by
 have hz := worldOk_sz hw
 have hXw := h.box.lt
 have hSw := h.blk.lt
 have x1 := h.box.cell (j := 1) (by simp)
 simp only [gCZ, gCS] at x1
 unfold slc at x1
 have c0 := h.st i hi
 have hii : (i : Int) < (W.ss.length : Int) := by omega
 have b0 : Below w.heap.size w ((w.alloc (.cells #[.int .i64 6, .string key, .string val] 41)).alloc (.cells #[.int .i64 0, .string ⟨#[]⟩, .int .i64 0] 46)) := ((Below.refl _ _).alloc (nL _) _).alloc (by simp) _
 have h0 := h.kept b0
 have X0 : RowTo ((w.alloc (.cells #[.int .i64 6, .string key, .string val] 41)).alloc (.cells #[.int .i64 0, .string ⟨#[]⟩, .int .i64 0] 46)) (w.heap.size + 1) 46 3 [.int .i64 0, .string ⟨#[]⟩, .int .i64 0] := by
  have := RowTo.whole (w.alloc (.cells #[.int .i64 6, .string key, .string val] 41)) #[.int .i64 0, .string ⟨#[]⟩, .int .i64 0] 46
  simpa using this
 have hzs : ((w.alloc (.cells #[.int .i64 6, .string key, .string val] 41)).alloc (.cells #[.int .i64 0, .string ⟨#[]⟩, .int .i64 0] 46)).heap.size = w.heap.size + 1 + 1 := by simp
 have hgr := h.rows.row.lt
 have hgg : ∀ i j, i < W.ss.length → j < 4 → w.heap.size + 1 ≠ G i j := fun i j hi hj => by have := (h.ls i j hi hj).row.lt; omega
 obtain ⟨r, hr⟩ : ∃ r, r = did1 W i 6 key val := ⟨_, rfl⟩
 rw [← hr]
 have hbs : base ≤ ((w.alloc (.cells #[.int .i64 6, .string key, .string val] 41)).alloc (.cells #[.int .i64 0, .string ⟨#[]⟩, .int .i64 0] 46)).heap.size := by omega
 have hd : r = (W, fnd' (findA [W.ss[i].set] key)) := by
  rw [hr]; unfold did1; simp only [getD_at hi]; rw [if_neg (fun hh => hst hh.1)]; simp only [findA]; simp
  cases atL W.ss[i].set key <;> rfl
 have hans : ansOf (findA [W.ss[i].set] key) = ansV r.2.kind r.2.text := by
  rw [hd]
  cases findA [W.ss[i].set] key <;> rfl
 have HC := jD (show ∀ (w9 : World) (b9 : Nat), b9 < w9.heap.size → w9.cell? ⟨b9, 0, none⟩ = some (.slice (some ⟨G i 0, 0, none⟩) W.ss[i].set.length (C i 0)) → Lst w9 w9.heap.size (.slice (some ⟨G i 0, 0, none⟩) W.ss[i].set.length (C i 0)) W.ss[i].set → Calls Tryz.prog 68 #[.string key, .slice (some ⟨b9, 0, none⟩) 1 1] w9 (fun e w' => e = .returned (ansV r.2.kind r.2.text) ∧ Below w9.heap.size w9 w') from fun w9 b9 hb9 c0 l0 => by
  rw [← hans]
  refine find_any key b9 [W.ss[i].set] (fun n => ([.slice (some ⟨G i 0, 0, none⟩) W.ss[i].set.length (C i 0)] : List Value).getD n (.int .i64 0)) w9 hb9 (by simp) (fun n hn => ?_)
  obtain rfl : n = 0 := by simp at hn; omega
  exact ⟨c0, l0, (pairsB_rising (hw.sess i hi).set).1⟩)
 have H0 := jD h0
 have HD := jD hd
 have L0 := jD (show Lst ((w.alloc (.cells #[.int .i64 6, .string key, .string val] 41)).alloc (.cells #[.int .i64 0, .string ⟨#[]⟩, .int .i64 0] 46)) ((w.alloc (.cells #[.int .i64 6, .string key, .string val] 41)).alloc (.cells #[.int .i64 0, .string ⟨#[]⟩, .int .i64 0] 46)).heap.size (.slice (some ⟨G i 0, 0, none⟩) W.ss[i].set.length (C i 0)) W.ss[i].set from h0.list hz hi (j := 0) (by omega))
 have H := jD h
 have HZ := jD hz
 have HW := jD hw
 have B0 := jD b0
 have HX0 := jD X0
 have HZS := jD hzs
 have HG := jD hgg
 have HR := jD hr
 clear h hz hw b0 X0 hzs hgg hr h0 hd hans
 have e2 : (W.ss[i].st == 2) = false := beq_eq_false_iff_ne.2 hst
 ·skip
  go_enter Tryz.func45, Tryz.ntmps45
  go_wp2_with fail
  have hsz0 := HZS.out
  have y0 : ((w.alloc (.cells #[.int .i64 6, .string key, .string val] 41)).alloc (.cells #[.int .i64 0, .string ⟨#[]⟩, .int .i64 0] 46)).cell? ⟨w.heap.size, 1, none⟩ = some (.string key) := by simp [go_sem]
  have y1 : ((w.alloc (.cells #[.int .i64 6, .string key, .string val] 41)).alloc (.cells #[.int .i64 0, .string ⟨#[]⟩, .int .i64 0] 46)).cell? ⟨S, i * 5 + 1, none⟩ = some (.slice (some ⟨G i 0, 0, none⟩) W.ss[i].set.length (C i 0)) := H0.out.cs i 0 hi (by omega)
  generalize hA : ((w.alloc (.cells #[.int .i64 6, .string key, .string val] 41)).alloc (.cells #[.int .i64 0, .string ⟨#[]⟩, .int .i64 0] 46)) = w8 at *
  have hw8 : w.heap.size < w8.heap.size := by omega
  have hS8 : S < w8.heap.size := by omega
  have hX8 : X < w8.heap.size := by omega
  have dS := jD (show w8.drew.cell? ⟨w.heap.size, 1, none⟩ = some (.string key) ∧ w8.drew.cell? ⟨S, i * 5 + 1, none⟩ = some (.slice (some ⟨G i 0, 0, none⟩) W.ss[i].set.length (C i 0)) from ⟨y0, y1⟩)
  have dA := jD (show (w8.alloc (.cells #[.slice (some ⟨G i 0, 0, none⟩) W.ss[i].set.length (C i 0)] 27)).cell? ⟨w.heap.size, 1, none⟩ = some (.string key) ∧ (w8.alloc (.cells #[.slice (some ⟨G i 0, 0, none⟩) W.ss[i].set.length (C i 0)] 27)).cell? ⟨S, i * 5 + 1, none⟩ = some (.slice (some ⟨G i 0, 0, none⟩) W.ss[i].set.length (C i 0)) from ⟨cell_new1 hw8 y0, cell_new1 hS8 y1⟩)
  have dB := jD (show (w8.drew.alloc (.cells #[.slice (some ⟨G i 0, 0, none⟩) W.ss[i].set.length (C i 0)] 27)).cell? ⟨w.heap.size, 1, none⟩ = some (.string key) ∧ (w8.drew.alloc (.cells #[.slice (some ⟨G i 0, 0, none⟩) W.ss[i].set.length (C i 0)] 27)).cell? ⟨S, i * 5 + 1, none⟩ = some (.slice (some ⟨G i 0, 0, none⟩) W.ss[i].set.length (C i 0)) from ⟨cell_new1 (w := w8.drew) hw8 y0, cell_new1 (w := w8.drew) hS8 y1⟩)
  have dC := jD (show (w8.alloc (.cells #[.slice (some ⟨G i 0, 0, none⟩) W.ss[i].set.length (C i 0)] 27)).drew.cell? ⟨w.heap.size, 1, none⟩ = some (.string key) ∧ (w8.alloc (.cells #[.slice (some ⟨G i 0, 0, none⟩) W.ss[i].set.length (C i 0)] 27)).drew.cell? ⟨S, i * 5 + 1, none⟩ = some (.slice (some ⟨G i 0, 0, none⟩) W.ss[i].set.length (C i 0)) from ⟨cell_new1 (w := w8) hw8 y0, cell_new1 (w := w8) hS8 y1⟩)
  go_region_held3 (fun wx => wx.cell? ⟨w.heap.size, 1, none⟩ = some (.string key) ∧ wx.cell? ⟨S, i * 5 + 1, none⟩ = some (.slice (some ⟨G i 0, 0, none⟩) W.ss[i].set.length (C i 0)))
   (first
    | with_reducible exact ⟨y0, y1⟩
    | with_reducible exact dS.out
    | with_reducible exact dA.out
    | with_reducible exact dB.out
    | with_reducible exact dC.out
    | with_reducible exact ⟨cell_set3' z0 (by omega), cell_set3' z1 (by omega)⟩
    | with_reducible exact ⟨z0, z1⟩
    | (trace_state; fail))
   (first
    | (
     go_at_call 68
     refine (HC.out _ _ (by simp; omega) (by rw [← hsz0]; simp [go_sem]) (by first | exact (L0.out.step ((Below.refl _ _).alloc (nL _) _)) | exact (L0.out.step (((Below.refl _ _).drew).alloc (nL _) _)))).mono ?_
     rintro e wB ⟨rfl, hy⟩
     have kB : Below w8.heap.size w8 wB := ⟨hy.os, hy.tape, hy.output, by have := hy.size; simp at this; omega, fun b hb => (hy.block b (by simp; omega)).trans (Below.heap_alloc _ _ _ hb)⟩
     have z0 := (kB.cell (p := ⟨w.heap.size, 1, none⟩) hw8).trans y0
     have z1 := (kB.cell (p := ⟨S, i * 5 + 1, none⟩) hS8).trans y1
     have RB := HX0.out.below kB HX0.out.lt
     have r0 := RB.cell (j := 0) (by simp)
     have r1 := RB.cell (j := 1) (by simp)
     have r2 := RB.cell (j := 2) (by simp)
     have s0 := RB.frozen 0
     have s1 := RB.frozen 1
     have s2 := RB.frozen 2
     simp only [gCZ, gCS] at r0 r1 r2
     unfold ansV))
  have HP := jD (show ExPost w8 base X S gR G W.ss.length r (.returned (ansV r.2.kind r.2.text)) wB by
   have e := HD.out
   rw [e]
   exact ExPost.same H0.out lo HZ.out hbs rfl kB)
  have HRB := jD RB
  clear kB hy RB z0 z1
  go_wp2
  refine bodyPost_ret (v := .agg #[.int .i64 r.2.kind, .string r.2.text, .int .i64 0]) (by simp [results, Tryz.results45, go_sem, r0, r1, r2]) rfl ?_
  exact HP.out.laid B0.out hb (by omega) HRB.out _ _ _
set_option maxHeartbeats 2000000 in
theorem execute_read (base X S gR cR : Nat) (G C : Nat → Nat → Nat) (W : Wd) (i : Nat) (key val : ByteArray) (w : World) (h : OwnD w X S gR cR G C W) (lo : LoD base X S gR G W.ss.length) (hw : WorldOk W) (hb : base ≤ w.heap.size) (hi : i < W.ss.length) (hkz : key.size ≤ 8) (hvz : val.size ≤ 60) (hst : W.ss[i].st ≠ 2) :
  Calls Tryz.prog 45 #[.pointer (some ⟨X, 0, none⟩), .int .i64 i, .agg #[.int .i64 7, .string key, .string val]] w (ExPost w base X S gR G W.ss.length (did1 W i 7 key val)) := by
 have hz := worldOk_sz hw
 have hXw := h.box.lt
 have hSw := h.blk.lt
 have x1 := h.box.cell (j := 1) (by simp)
 simp only [gCZ, gCS] at x1
 unfold slc at x1
 have c0 := h.st i hi
 have hii : (i : Int) < (W.ss.length : Int) := by omega
 have b0 : Below w.heap.size w ((w.alloc (.cells #[.int .i64 7, .string key, .string val] 41)).alloc (.cells #[.int .i64 0, .string ⟨#[]⟩, .int .i64 0] 46)) := ((Below.refl _ _).alloc (nL _) _).alloc (by simp) _
 have h0 := h.kept b0
 have X0 : RowTo ((w.alloc (.cells #[.int .i64 7, .string key, .string val] 41)).alloc (.cells #[.int .i64 0, .string ⟨#[]⟩, .int .i64 0] 46)) (w.heap.size + 1) 46 3 [.int .i64 0, .string ⟨#[]⟩, .int .i64 0] := by
  have := RowTo.whole (w.alloc (.cells #[.int .i64 7, .string key, .string val] 41)) #[.int .i64 0, .string ⟨#[]⟩, .int .i64 0] 46
  simpa using this
 have hzs : ((w.alloc (.cells #[.int .i64 7, .string key, .string val] 41)).alloc (.cells #[.int .i64 0, .string ⟨#[]⟩, .int .i64 0] 46)).heap.size = w.heap.size + 1 + 1 := by simp
 have hgr := h.rows.row.lt
 have hgg : ∀ i j, i < W.ss.length → j < 4 → w.heap.size + 1 ≠ G i j := fun i j hi hj => by have := (h.ls i j hi hj).row.lt; omega
 obtain ⟨r, hr⟩ : ∃ r, r = did1 W i 7 key val := ⟨_, rfl⟩
 rw [← hr]
 have hbs : base ≤ ((w.alloc (.cells #[.int .i64 7, .string key, .string val] 41)).alloc (.cells #[.int .i64 0, .string ⟨#[]⟩, .int .i64 0] 46)).heap.size := by omega
 have hd : r = (W, fnd' (findA [W.ss[i].wr, W.rows] key)) := by
  rw [hr]; unfold did1; simp only [getD_at hi]; rw [if_neg (fun hh => hst hh.1)]; simp only [findA]; simp
  cases atL W.ss[i].wr key <;> cases atL W.rows key <;> rfl
 have hans : ansOf (findA [W.ss[i].wr, W.rows] key) = ansV r.2.kind r.2.text := by
  rw [hd]
  cases findA [W.ss[i].wr, W.rows] key <;> rfl
 have HC := jD (show ∀ (w9 : World) (b9 : Nat), b9 < w9.heap.size → w9.cell? ⟨b9, 0, none⟩ = some (.slice (some ⟨G i 3, 0, none⟩) W.ss[i].wr.length (C i 3)) → w9.cell? ⟨b9, 1, none⟩ = some (.slice (some ⟨gR, 0, none⟩) W.rows.length cR) → Lst w9 w9.heap.size (.slice (some ⟨G i 3, 0, none⟩) W.ss[i].wr.length (C i 3)) W.ss[i].wr → Lst w9 w9.heap.size (.slice (some ⟨gR, 0, none⟩) W.rows.length cR) W.rows → Calls Tryz.prog 68 #[.string key, .slice (some ⟨b9, 0, none⟩) 2 2] w9 (fun e w' => e = .returned (ansV r.2.kind r.2.text) ∧ Below w9.heap.size w9 w') from fun w9 b9 hb9 c0 c1 l0 l1 => by
  rw [← hans]
  refine find_any key b9 [W.ss[i].wr, W.rows] (fun n => ([.slice (some ⟨G i 3, 0, none⟩) W.ss[i].wr.length (C i 3), .slice (some ⟨gR, 0, none⟩) W.rows.length cR] : List Value).getD n (.int .i64 0)) w9 hb9 (by simp) (fun n hn => ?_)
  have hn2 : n < 2 := hn
  rcases Nat.lt_or_ge n 1 with h1 | h1
  ·obtain rfl : n = 0 := by omega
   exact ⟨c0, l0, (pairsB_rising (hw.sess i hi).wr).1⟩
  ·obtain rfl : n = 1 := by omega
   exact ⟨c1, l1, (pairsB_rising hw.rows).1⟩)
 have H0 := jD h0
 have HD := jD hd
 have L0 := jD (show Lst ((w.alloc (.cells #[.int .i64 7, .string key, .string val] 41)).alloc (.cells #[.int .i64 0, .string ⟨#[]⟩, .int .i64 0] 46)) ((w.alloc (.cells #[.int .i64 7, .string key, .string val] 41)).alloc (.cells #[.int .i64 0, .string ⟨#[]⟩, .int .i64 0] 46)).heap.size (.slice (some ⟨G i 3, 0, none⟩) W.ss[i].wr.length (C i 3)) W.ss[i].wr from h0.list hz hi (j := 3) (by omega))
 have L1 := jD (show Lst ((w.alloc (.cells #[.int .i64 7, .string key, .string val] 41)).alloc (.cells #[.int .i64 0, .string ⟨#[]⟩, .int .i64 0] 46)) ((w.alloc (.cells #[.int .i64 7, .string key, .string val] 41)).alloc (.cells #[.int .i64 0, .string ⟨#[]⟩, .int .i64 0] 46)).heap.size (.slice (some ⟨gR, 0, none⟩) W.rows.length cR) W.rows from (h0.wld hz).rows)
 have H := jD h
 have HZ := jD hz
 have HW := jD hw
 have B0 := jD b0
 have HX0 := jD X0
 have HZS := jD hzs
 have HG := jD hgg
 have HR := jD hr
 clear h hz hw b0 X0 hzs hgg hr h0 hd hans
 have e2 : (W.ss[i].st == 2) = false := beq_eq_false_iff_ne.2 hst
 ·skip
  go_enter Tryz.func45, Tryz.ntmps45
  go_wp2_with fail
  have hsz0 := HZS.out
  have y0 : ((w.alloc (.cells #[.int .i64 7, .string key, .string val] 41)).alloc (.cells #[.int .i64 0, .string ⟨#[]⟩, .int .i64 0] 46)).cell? ⟨w.heap.size, 1, none⟩ = some (.string key) := by simp [go_sem]
  have y1 : ((w.alloc (.cells #[.int .i64 7, .string key, .string val] 41)).alloc (.cells #[.int .i64 0, .string ⟨#[]⟩, .int .i64 0] 46)).cell? ⟨S, i * 5 + 4, none⟩ = some (.slice (some ⟨G i 3, 0, none⟩) W.ss[i].wr.length (C i 3)) := H0.out.cs i 3 hi (by omega)
  have y2 : ((w.alloc (.cells #[.int .i64 7, .string key, .string val] 41)).alloc (.cells #[.int .i64 0, .string ⟨#[]⟩, .int .i64 0] 46)).cell? ⟨X, 0, none⟩ = some (.slice (some ⟨gR, 0, none⟩) W.rows.length cR) := H0.out.box.cell (j := 0) (by simp)
  generalize hA : ((w.alloc (.cells #[.int .i64 7, .string key, .string val] 41)).alloc (.cells #[.int .i64 0, .string ⟨#[]⟩, .int .i64 0] 46)) = w8 at *
  have hw8 : w.heap.size < w8.heap.size := by omega
  have hS8 : S < w8.heap.size := by omega
  have hX8 : X < w8.heap.size := by omega
  have dS := jD (show w8.drew.cell? ⟨w.heap.size, 1, none⟩ = some (.string key) ∧ w8.drew.cell? ⟨S, i * 5 + 4, none⟩ = some (.slice (some ⟨G i 3, 0, none⟩) W.ss[i].wr.length (C i 3)) ∧ w8.drew.cell? ⟨X, 0, none⟩ = some (.slice (some ⟨gR, 0, none⟩) W.rows.length cR) from ⟨y0, y1, y2⟩)
  have dA := jD (show (w8.alloc (.cells #[.slice (some ⟨G i 3, 0, none⟩) W.ss[i].wr.length (C i 3), .slice (some ⟨gR, 0, none⟩) W.rows.length cR] 27)).cell? ⟨w.heap.size, 1, none⟩ = some (.string key) ∧ (w8.alloc (.cells #[.slice (some ⟨G i 3, 0, none⟩) W.ss[i].wr.length (C i 3), .slice (some ⟨gR, 0, none⟩) W.rows.length cR] 27)).cell? ⟨S, i * 5 + 4, none⟩ = some (.slice (some ⟨G i 3, 0, none⟩) W.ss[i].wr.length (C i 3)) ∧ (w8.alloc (.cells #[.slice (some ⟨G i 3, 0, none⟩) W.ss[i].wr.length (C i 3), .slice (some ⟨gR, 0, none⟩) W.rows.length cR] 27)).cell? ⟨X, 0, none⟩ = some (.slice (some ⟨gR, 0, none⟩) W.rows.length cR) from ⟨cell_new1 hw8 y0, cell_new1 hS8 y1, cell_new1 hX8 y2⟩)
  have dB := jD (show (w8.drew.alloc (.cells #[.slice (some ⟨G i 3, 0, none⟩) W.ss[i].wr.length (C i 3), .slice (some ⟨gR, 0, none⟩) W.rows.length cR] 27)).cell? ⟨w.heap.size, 1, none⟩ = some (.string key) ∧ (w8.drew.alloc (.cells #[.slice (some ⟨G i 3, 0, none⟩) W.ss[i].wr.length (C i 3), .slice (some ⟨gR, 0, none⟩) W.rows.length cR] 27)).cell? ⟨S, i * 5 + 4, none⟩ = some (.slice (some ⟨G i 3, 0, none⟩) W.ss[i].wr.length (C i 3)) ∧ (w8.drew.alloc (.cells #[.slice (some ⟨G i 3, 0, none⟩) W.ss[i].wr.length (C i 3), .slice (some ⟨gR, 0, none⟩) W.rows.length cR] 27)).cell? ⟨X, 0, none⟩ = some (.slice (some ⟨gR, 0, none⟩) W.rows.length cR) from ⟨cell_new1 (w := w8.drew) hw8 y0, cell_new1 (w := w8.drew) hS8 y1, cell_new1 (w := w8.drew) hX8 y2⟩)
  have dC := jD (show (w8.alloc (.cells #[.slice (some ⟨G i 3, 0, none⟩) W.ss[i].wr.length (C i 3), .slice (some ⟨gR, 0, none⟩) W.rows.length cR] 27)).drew.cell? ⟨w.heap.size, 1, none⟩ = some (.string key) ∧ (w8.alloc (.cells #[.slice (some ⟨G i 3, 0, none⟩) W.ss[i].wr.length (C i 3), .slice (some ⟨gR, 0, none⟩) W.rows.length cR] 27)).drew.cell? ⟨S, i * 5 + 4, none⟩ = some (.slice (some ⟨G i 3, 0, none⟩) W.ss[i].wr.length (C i 3)) ∧ (w8.alloc (.cells #[.slice (some ⟨G i 3, 0, none⟩) W.ss[i].wr.length (C i 3), .slice (some ⟨gR, 0, none⟩) W.rows.length cR] 27)).drew.cell? ⟨X, 0, none⟩ = some (.slice (some ⟨gR, 0, none⟩) W.rows.length cR) from ⟨cell_new1 (w := w8) hw8 y0, cell_new1 (w := w8) hS8 y1, cell_new1 (w := w8) hX8 y2⟩)
  go_region_held3 (fun wx => wx.cell? ⟨w.heap.size, 1, none⟩ = some (.string key) ∧ wx.cell? ⟨S, i * 5 + 4, none⟩ = some (.slice (some ⟨G i 3, 0, none⟩) W.ss[i].wr.length (C i 3)) ∧ wx.cell? ⟨X, 0, none⟩ = some (.slice (some ⟨gR, 0, none⟩) W.rows.length cR))
   (first
    | with_reducible exact ⟨y0, y1, y2⟩
    | with_reducible exact dS.out
    | with_reducible exact dA.out
    | with_reducible exact dB.out
    | with_reducible exact dC.out
    | with_reducible exact ⟨cell_set3' z0 (by omega), cell_set3' z1 (by omega), cell_set3' z2 (by omega)⟩
    | with_reducible exact ⟨z0, z1, z2⟩
    | (trace_state; fail))
   (first
    | (
     go_at_call 68
     refine (HC.out _ _ (by simp; omega) (by rw [← hsz0]; simp [go_sem]) (by rw [← hsz0]; simp [go_sem]) (by first | exact (L0.out.step ((Below.refl _ _).alloc (nL _) _)) | exact (L0.out.step (((Below.refl _ _).drew).alloc (nL _) _))) (by first | exact (L1.out.step ((Below.refl _ _).alloc (nL _) _)) | exact (L1.out.step (((Below.refl _ _).drew).alloc (nL _) _)))).mono ?_
     rintro e wB ⟨rfl, hy⟩
     have kB : Below w8.heap.size w8 wB := ⟨hy.os, hy.tape, hy.output, by have := hy.size; simp at this; omega, fun b hb => (hy.block b (by simp; omega)).trans (Below.heap_alloc _ _ _ hb)⟩
     have z0 := (kB.cell (p := ⟨w.heap.size, 1, none⟩) hw8).trans y0
     have z1 := (kB.cell (p := ⟨S, i * 5 + 4, none⟩) hS8).trans y1
     have z2 := (kB.cell (p := ⟨X, 0, none⟩) hX8).trans y2
     have RB := HX0.out.below kB HX0.out.lt
     have r0 := RB.cell (j := 0) (by simp)
     have r1 := RB.cell (j := 1) (by simp)
     have r2 := RB.cell (j := 2) (by simp)
     have s0 := RB.frozen 0
     have s1 := RB.frozen 1
     have s2 := RB.frozen 2
     simp only [gCZ, gCS] at r0 r1 r2
     unfold ansV))
  have HP := jD (show ExPost w8 base X S gR G W.ss.length r (.returned (ansV r.2.kind r.2.text)) wB by
   have e := HD.out
   rw [e]
   exact ExPost.same H0.out lo HZ.out hbs rfl kB)
  have HRB := jD RB
  clear kB hy RB z0 z1 z2
  go_wp2
  refine bodyPost_ret (v := .agg #[.int .i64 r.2.kind, .string r.2.text, .int .i64 0]) (by simp [results, Tryz.results45, go_sem, r0, r1, r2]) rfl ?_
  exact HP.out.laid B0.out hb (by omega) HRB.out _ _ _
theorem execute_plain (base X S gR cR : Nat) (G C : Nat → Nat → Nat) (W : Wd) (i : Nat) (k : Int) (key val : ByteArray) (w : World) (h : OwnD w X S gR cR G C W) (lo : LoD base X S gR G W.ss.length) (hw : WorldOk W) (hb : base ≤ w.heap.size) (hi : i < W.ss.length) (hkz : key.size ≤ 8) (hvz : val.size ≤ 60) (h1 : 1 ≤ k) (h2 : k ≤ 11) (h8 : k ≠ 8) :
  Calls Tryz.prog 45 #[.pointer (some ⟨X, 0, none⟩), .int .i64 i, .agg #[.int .i64 k, .string key, .string val]] w (ExPost w base X S gR G W.ss.length (did1 W i k key val)) := by
 by_cases hk : k = 2 ∨ k = 3
 ·rcases hk with rfl | rfl
  ·exact execute_commit base X S gR cR G C W i key val w h lo hw hb hi hkz hvz
  ·exact execute_rollback base X S gR cR G C W i key val w h lo hw hb hi hkz hvz
 by_cases hst : W.ss[i].st = 2
 ·exact execute_failed base X S gR cR G C W i k key val w h lo hw hb hi hkz hvz hst hk
 obtain rfl | rfl | rfl | rfl | rfl | rfl | rfl | rfl : k = 1 ∨ k = 4 ∨ k = 5 ∨ k = 6 ∨ k = 7 ∨ k = 9 ∨ k = 10 ∨ k = 11 := by omega
 ·exact execute_begin base X S gR cR G C W i key val w h lo hw hb hi hkz hvz hst
 ·exact execute_reset base X S gR cR G C W i key val w h lo hw hb hi hkz hvz hst
 ·exact execute_fail base X S gR cR G C W i key val w h lo hw hb hi hkz hvz hst
 ·exact execute_get base X S gR cR G C W i key val w h lo hw hb hi hkz hvz hst
 ·exact execute_read base X S gR cR G C W i key val w h lo hw hb hi hkz hvz hst
 ·exact execute_set base X S gR cR G C W i key val w h lo hw hb hi hkz hvz hst
 ·exact execute_put base X S gR cR G C W i key val w h lo hw hb hi hkz hvz hst
 ·exact execute_prep base X S gR cR G C W i key val w h lo hw hb hi hkz hvz hst
set_option maxHeartbeats 400000 in
theorem bounded_any (lo hi lim : Int) (w : World) :
  Calls Tryz.prog 129 #[.int .u8 lo, .int .u8 hi, .int .i64 lim] w fun e w' => e = .returned (.func (.func 140) #[] #[.pointer (some ⟨w.heap.size + 1 + 1, 0, none⟩), .pointer (some ⟨w.heap.size, 0, none⟩), .pointer (some ⟨w.heap.size + 1, 0, none⟩)]) ∧
   ((w.alloc (.cells #[.int .u8 lo] 5)).alloc (.cells #[.int .u8 hi] 5)).alloc (.cells #[.int .i64 lim] 3) = w' := by
 go_enter Tryz.func129, Tryz.ntmps129
 go_wp2
 go_ret
 exact ⟨rfl, rfl⟩
set_option maxHeartbeats 400000 in
theorem bounded1_any (s : ByteArray) (lo hi lim : Nat) (p1 p2 p3 : Addr) (w : World) (hs : s.size ≤ maxLen) (h1 : w.cell? p1 = some (.int .i64 lim)) (h2 : w.cell? p2 = some (.int .u8 lo)) (h3 : w.cell? p3 = some (.int .u8 hi)) :
  Calls Tryz.prog 140 #[.string s, .pointer (some p1), .pointer (some p2), .pointer (some p3)] w fun e w' => e = .returned (.bool (bndB lo hi lim s)) ∧ ∃ n, w' = w.drewN n := by
 unfold maxLen at hs
 by_cases h0 : s.size = 0
 ·have hb := jD (bndB_short (lo := lo) (hi := hi) (lim := lim) (.inl h0))
  go_enter Tryz.func140, Tryz.ntmps140
  go_wp2
  go_ret
  exact ⟨by rw [hb.out]; rfl, 0, rfl⟩
 have hz : ((s.size : Int) == 0) = false := beq_eq_false_iff_ne.2 (by omega)
 by_cases hl : lim < s.size
 ·have hb := jD (bndB_short (lo := lo) (hi := hi) (lim := lim) (.inr hl))
  go_enter Tryz.func140, Tryz.ntmps140
  go_wp2
  go_ret
  exact ⟨by rw [hb.out]; rfl, 0, rfl⟩
 have hl' : decide (lim < s.size) = false := decide_eq_false hl
 go_enter Tryz.func140, Tryz.ntmps140
 go_wp2
 go_loopw [18] (fun c w' => ∃ k : Nat, k ≤ s.size ∧ c = .int .i64 k ∧ Hid (∀ j (hj : j < s.size), j < k → lo ≤ s[j].toNat ∧ s[j].toNat ≤ hi) ∧ ∃ n, w' = w.drewN n) (fun c _ => s.size - (intOf c).toNat)
 case atStart => exact ⟨0, Nat.zero_le _, rfl, fun _ _ h => absurd h (Nat.not_lt_zero _), 0, rfl⟩
 case round =>
  obtain ⟨k, hk, rfl, hall, n, rfl⟩ := hrel
  by_cases hlt : k < s.size
  ·by_cases g1 : s[k].toNat < lo
   ·have hb := jD (bndB_bad (lo := lo) (hi := hi) (lim := lim) hlt (.inl g1))
    go_wp2
    go_quiet (fail)
    go_wp2
    go_ret
    exact ⟨by rw [hb.out]; rfl, n + nq, by rw [World.drewN_drewN]⟩
   ·by_cases g2 : hi < s[k].toNat
    ·have hb := jD (bndB_bad (lo := lo) (hi := hi) (lim := lim) hlt (.inr g2))
     have g1' : decide (s[k].toNat < lo) = false := decide_eq_false g1
     go_wp2
     go_quiet (fail)
     go_wp2
     go_ret
     exact ⟨by rw [hb.out]; rfl, n + nq, by rw [World.drewN_drewN]⟩
    ·have g1' : decide (s[k].toNat < lo) = false := decide_eq_false g1
     have g2' : decide (hi < s[k].toNat) = false := decide_eq_false g2
     go_wp2
     go_quiet (fail)
     go_wp2
     go_roundw
     case rel =>
      refine ⟨k + 1, by omega, by go_num, fun j hj hjk => ?_, n + nq, rfl⟩
      by_cases e : j = k
      ·subst e; omega
      ·exact hall.out j hj (by omega)
     case measure => simp [intOf]; omega
  ·have hb := jD (bndB_good (lo := lo) (hi := hi) (lim := lim) (s := s) (by omega) (by omega) (fun j hj => hall.out j hj (by omega)))
   go_wp2
   go_ret
   exact ⟨by rw [hb.out]; rfl, n, rfl⟩
set_option maxHeartbeats 400000 in
theorem name_any (s : ByteArray) (w : World) (hs : s.size ≤ maxLen) :
  Calls Tryz.prog 106 #[.string s] w fun e w' => e = .returned (.bool (bndB 97 122 8 s)) ∧ Below w.heap.size w w' := by
 go_enter Tryz.func106, Tryz.ntmps106
 go_wp2_with fail
 refine (bounded_any 97 122 8 _).mono ?_
 rintro e w' ⟨rfl, rfl⟩
 go_wp2_with fail
 refine (bounded1_any s 97 122 8 _ _ _ _ hs (by go_simp) (by go_simp) (by go_simp)).mono ?_
 rintro e w' ⟨rfl, n, rfl⟩
 go_wp2
 go_ret
 exact ⟨rfl, below_drewN ((((Below.refl _ _).alloc (nL _) _).alloc (by simp) _).alloc (by simp; omega) _) n⟩
set_option maxHeartbeats 400000 in
theorem isValue_any (s : ByteArray) (w : World) (hs : s.size ≤ maxLen) :
  Calls Tryz.prog 130 #[.string s] w fun e w' => e = .returned (.bool (bndB 33 126 20 s)) ∧ Below w.heap.size w w' := by
 go_enter Tryz.func130, Tryz.ntmps130
 go_wp2_with fail
 refine (bounded_any 33 126 20 _).mono ?_
 rintro e w' ⟨rfl, rfl⟩
 go_wp2_with fail
 refine (bounded1_any s 33 126 20 _ _ _ _ hs (by go_simp) (by go_simp) (by go_simp)).mono ?_
 rintro e w' ⟨rfl, n, rfl⟩
 go_wp2
 go_ret
 exact ⟨rfl, below_drewN ((((Below.refl _ _).alloc (nL _) _).alloc (by simp) _).alloc (by simp; omega) _) n⟩
end Go.Proofs.YtpbaobmegomfpabGreatDoor
