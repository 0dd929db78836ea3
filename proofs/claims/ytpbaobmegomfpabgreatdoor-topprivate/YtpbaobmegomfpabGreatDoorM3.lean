/-
  Texts of the proof, one behind the other: BExe2, BExe3, BExe4, Say1, Say1v, Say4, Say5, Say6, Stm, Say12, BExec, BExec2, BFit, Say7, Say8, Say9, Say10, BChk, BChk2, BCheck, BChkDo, BCopy2, BCopy3, BackKeep, AnsM.
-/
import Derived.Test.YtpbaobmegomfpabGreatDoorM2
import Derived.Test.YtpbaobmegomfpabGreatDoorRows
import Derived.Test.YtpbaobmegomfpabGreatDoorM1
import Derived.WalkKit
import Derived.WalkSpells
import Derived.WalkLawsBesides
import Derived.Deep.QuietTactic
import Derived.BigQuiet
import Derived.Lib.Hide
import Derived.Lib.Bytealg
import Derived.IntWalk
import Derived.Deep.RegionHeld3
import Derived.Deep.RegionWith
import Derived.Maps.RangeWalk
import Derived.WalkSmall
set_option linter.unusedVariables false
set_option linter.unusedSimpArgs false
set_option maxRecDepth 100000
open List renaming getElem_toArray → gTA, getElem_cons_zero → gCZ, getElem_cons_succ → gCS, setIfInBounds_toArray → sTA, set_cons_zero → sCZ, set_cons_succ → sCS
open Go.Lib renaming hid → hD
open Nat renaming le_refl → nL
namespace Go.Proofs.YtpbaobmegomfpabGreatDoor
open Go.RowKit
set_option maxHeartbeats 2000000 in
theorem execute_set (base X S gR cR : Nat) (G C : Nat → Nat → Nat) (W : Wd) (i : Nat) (key val : ByteArray) (w : World) (h : OwnD w X S gR cR G C W) (lo : LoD base X S gR G W.ss.length) (hw : WorldOk W) (hb : base ≤ w.heap.size) (hi : i < W.ss.length) (hkz : key.size ≤ 8) (hvz : val.size ≤ 60) (hst : W.ss[i].st ≠ 2) :
  Calls Tryz.prog 45 #[.pointer (some ⟨X, 0, none⟩), .int .i64 i, .agg #[.int .i64 9, .string key, .string val]] w (ExPost w base X S gR G W.ss.length (did1 W i 9 key val)) := by
 have hz := worldOk_sz hw
 have hXw := h.box.lt
 have hSw := h.blk.lt
 have x1 := h.box.cell (j := 1) (by simp)
 simp only [gCZ, gCS] at x1
 unfold slc at x1
 have c0 := h.st i hi
 have hii : (i : Int) < (W.ss.length : Int) := by omega
 have b0 : Below w.heap.size w ((w.alloc (.cells #[.int .i64 9, .string key, .string val] 41)).alloc (.cells #[.int .i64 0, .string ⟨#[]⟩, .int .i64 0] 46)) := ((Below.refl _ _).alloc (nL _) _).alloc (by simp) _
 have h0 := h.kept b0
 have X0 : RowTo ((w.alloc (.cells #[.int .i64 9, .string key, .string val] 41)).alloc (.cells #[.int .i64 0, .string ⟨#[]⟩, .int .i64 0] 46)) (w.heap.size + 1) 46 3 [.int .i64 0, .string ⟨#[]⟩, .int .i64 0] := by
  have := RowTo.whole (w.alloc (.cells #[.int .i64 9, .string key, .string val] 41)) #[.int .i64 0, .string ⟨#[]⟩, .int .i64 0] 46
  simpa using this
 have hzs : ((w.alloc (.cells #[.int .i64 9, .string key, .string val] 41)).alloc (.cells #[.int .i64 0, .string ⟨#[]⟩, .int .i64 0] 46)).heap.size = w.heap.size + 1 + 1 := by simp
 have hgr := h.rows.row.lt
 have hgg : ∀ i j, i < W.ss.length → j < 4 → w.heap.size + 1 ≠ G i j := fun i j hi hj => by have := (h.ls i j hi hj).row.lt; omega
 obtain ⟨r, hr⟩ : ∃ r, r = did1 W i 9 key val := ⟨_, rfl⟩
 rw [← hr]
 have hbs : base ≤ ((w.alloc (.cells #[.int .i64 9, .string key, .string val] 41)).alloc (.cells #[.int .i64 0, .string ⟨#[]⟩, .int .i64 0] 46)).heap.size := by omega
 have HC := hD (show ∀ (w9 : World), OwnD w9 X S gR cR G C W → base ≤ w9.heap.size → Calls Tryz.prog 70 #[.pointer (some ⟨S, i * 5 + 1, none⟩), .agg #[.int .i64 9, .string key, .string val], .int .i64 6] w9 (ExPost w9 base X S gR G W.ss.length r) from fun w9 h0 hbs => by
  rw [hr]
  have hrs := (pairsB_rising (hw.sess i hi).set).1
  rw [show did1 W i 9 key val = (if fndL (W.ss[i].li 0) key = false ∧ 6 ≤ (W.ss[i].li 0).length then (W, no' tFull) else (W.put i { W.ss[i] with set := insL W.ss[i].set key val }, ok')) by unfold did1; simp only [getD_at hi, plus_ins hrs]; rw [if_neg (fun hh => hst hh.1)]; simp [Sess.li]]
  exact keep_any base X S gR cR G C W i 0 9 _ h0 lo hz hbs hi (by omega) key val hkz hvz hrs _ rfl (fun k hk => by rcases j4 hk with rfl | rfl | rfl | rfl <;> rfl))
 have H0 := hD h0
 have HG2 := hD (show ∀ i j, i < W.ss.length → j < 4 → w.heap.size ≠ G i j from fun i j hi hj => by have := (h.ls i j hi hj).row.lt; omega)
 have H := hD h
 have HZ := hD hz
 have HW := hD hw
 have B0 := hD b0
 have HX0 := hD X0
 have HZS := hD hzs
 have HG := hD hgg
 have HR := hD hr
 clear h hz hw b0 X0 hzs hgg hr h0
 have e2 : (W.ss[i].st == 2) = false := beq_eq_false_iff_ne.2 hst
 ·skip
  go_enter Tryz.func45, Tryz.ntmps45
  go_wp2_with fail
  have hsz0 := HZS.out
  have y0 : ((w.alloc (.cells #[.int .i64 9, .string key, .string val] 41)).alloc (.cells #[.int .i64 0, .string ⟨#[]⟩, .int .i64 0] 46)).cell? ⟨w.heap.size, 0, none⟩ = some (.int .i64 9) := by simp [go_sem]
  have y1 : ((w.alloc (.cells #[.int .i64 9, .string key, .string val] 41)).alloc (.cells #[.int .i64 0, .string ⟨#[]⟩, .int .i64 0] 46)).cell? ⟨w.heap.size, 1, none⟩ = some (.string key) := by simp [go_sem]
  have y2 : ((w.alloc (.cells #[.int .i64 9, .string key, .string val] 41)).alloc (.cells #[.int .i64 0, .string ⟨#[]⟩, .int .i64 0] 46)).cell? ⟨w.heap.size, 2, none⟩ = some (.string val) := by simp [go_sem]
  generalize hA : ((w.alloc (.cells #[.int .i64 9, .string key, .string val] 41)).alloc (.cells #[.int .i64 0, .string ⟨#[]⟩, .int .i64 0] 46)) = w8 at *
  have hw8 : w.heap.size < w8.heap.size := by omega
  have dS := hD (show w8.drew.cell? ⟨w.heap.size, 0, none⟩ = some (.int .i64 9) ∧ w8.drew.cell? ⟨w.heap.size, 1, none⟩ = some (.string key) ∧ w8.drew.cell? ⟨w.heap.size, 2, none⟩ = some (.string val) from ⟨y0, y1, y2⟩)
  go_region_held3 (fun wx => wx.cell? ⟨w.heap.size, 0, none⟩ = some (.int .i64 9) ∧ wx.cell? ⟨w.heap.size, 1, none⟩ = some (.string key) ∧ wx.cell? ⟨w.heap.size, 2, none⟩ = some (.string val))
   (first
    | with_reducible exact ⟨y0, y1, y2⟩
    | with_reducible exact dS.out
    | with_reducible exact ⟨cell_set3' z0 (by omega), cell_set3' z1 (by omega), cell_set3' z2 (by omega)⟩
    | with_reducible exact ⟨z0, z1, z2⟩)
   (first
    | (
     go_at_call 70
     refine (HC.out _ (by first | exact H0.out | exact H0.out.kept (Below.refl _ _).drew | exact H0.out.kept (below_drewN (Below.refl _ _) _)) (by first | exact hbs | assumption)).mono ?_
     rintro e wB ⟨rfl, hp1, hp2, hp3⟩
     have hpB : ExPost w8 base X S gR G W.ss.length r (.returned (ansV r.2.kind r.2.text)) wB := ⟨rfl, hp1, ⟨hp2.os, hp2.tape, hp2.output, hp2.size, hp2.block⟩, hp3⟩
     have hxB := hpB.2.2.2 w.heap.size hw8 (by omega) (by omega) (by omega) HG2.out
     have z0 := (World.cell?_of_block (a := ⟨w.heap.size, 0, none⟩) hxB).trans y0
     have z1 := (World.cell?_of_block (a := ⟨w.heap.size, 1, none⟩) hxB).trans y1
     have z2 := (World.cell?_of_block (a := ⟨w.heap.size, 2, none⟩) hxB).trans y2
     have RB := HX0.out.same (hpB.2.2.2 (w.heap.size + 1) (by omega) (by omega) (by omega) (by omega) HG.out)
     have r0 := RB.cell (j := 0) (by simp)
     have r1 := RB.cell (j := 1) (by simp)
     have r2 := RB.cell (j := 2) (by simp)
     have s0 := RB.frozen 0
     have s1 := RB.frozen 1
     have s2 := RB.frozen 2
     simp only [gCZ, gCS] at r0 r1 r2
     unfold ansV))
  have HP := hD hpB
  have HRB := hD RB
  clear hpB hp1 hp2 hp3 hxB z0 z1 z2 RB
  go_wp2
  refine bodyPost_ret (v := .agg #[.int .i64 r.2.kind, .string r.2.text, .int .i64 0]) (by simp [results, Tryz.results45, go_sem, r0, r1, r2]) rfl ?_
  exact HP.out.laid B0.out hb (by omega) HRB.out _ _ _
set_option maxHeartbeats 2000000 in
theorem execute_prep (base X S gR cR : Nat) (G C : Nat → Nat → Nat) (W : Wd) (i : Nat) (key val : ByteArray) (w : World) (h : OwnD w X S gR cR G C W) (lo : LoD base X S gR G W.ss.length) (hw : WorldOk W) (hb : base ≤ w.heap.size) (hi : i < W.ss.length) (hkz : key.size ≤ 8) (hvz : val.size ≤ 60) (hst : W.ss[i].st ≠ 2) :
  Calls Tryz.prog 45 #[.pointer (some ⟨X, 0, none⟩), .int .i64 i, .agg #[.int .i64 11, .string key, .string val]] w (ExPost w base X S gR G W.ss.length (did1 W i 11 key val)) := by
 have hz := worldOk_sz hw
 have hXw := h.box.lt
 have hSw := h.blk.lt
 have x1 := h.box.cell (j := 1) (by simp)
 simp only [gCZ, gCS] at x1
 unfold slc at x1
 have c0 := h.st i hi
 have hii : (i : Int) < (W.ss.length : Int) := by omega
 have b0 : Below w.heap.size w ((w.alloc (.cells #[.int .i64 11, .string key, .string val] 41)).alloc (.cells #[.int .i64 0, .string ⟨#[]⟩, .int .i64 0] 46)) := ((Below.refl _ _).alloc (nL _) _).alloc (by simp) _
 have h0 := h.kept b0
 have X0 : RowTo ((w.alloc (.cells #[.int .i64 11, .string key, .string val] 41)).alloc (.cells #[.int .i64 0, .string ⟨#[]⟩, .int .i64 0] 46)) (w.heap.size + 1) 46 3 [.int .i64 0, .string ⟨#[]⟩, .int .i64 0] := by
  have := RowTo.whole (w.alloc (.cells #[.int .i64 11, .string key, .string val] 41)) #[.int .i64 0, .string ⟨#[]⟩, .int .i64 0] 46
  simpa using this
 have hzs : ((w.alloc (.cells #[.int .i64 11, .string key, .string val] 41)).alloc (.cells #[.int .i64 0, .string ⟨#[]⟩, .int .i64 0] 46)).heap.size = w.heap.size + 1 + 1 := by simp
 have hgr := h.rows.row.lt
 have hgg : ∀ i j, i < W.ss.length → j < 4 → w.heap.size + 1 ≠ G i j := fun i j hi hj => by have := (h.ls i j hi hj).row.lt; omega
 obtain ⟨r, hr⟩ : ∃ r, r = did1 W i 11 key val := ⟨_, rfl⟩
 rw [← hr]
 have hbs : base ≤ ((w.alloc (.cells #[.int .i64 11, .string key, .string val] 41)).alloc (.cells #[.int .i64 0, .string ⟨#[]⟩, .int .i64 0] 46)).heap.size := by omega
 have HC := hD (show ∀ (w9 : World), OwnD w9 X S gR cR G C W → base ≤ w9.heap.size → Calls Tryz.prog 70 #[.pointer (some ⟨S, i * 5 + 2, none⟩), .agg #[.int .i64 11, .string key, .string val], .int .i64 6] w9 (ExPost w9 base X S gR G W.ss.length r) from fun w9 h0 hbs => by
  rw [hr]
  have hrs := (pairsB_rising (hw.sess i hi).prep).1
  rw [show did1 W i 11 key val = (if fndL (W.ss[i].li 1) key = false ∧ 6 ≤ (W.ss[i].li 1).length then (W, no' tFull) else (W.put i { W.ss[i] with prep := insL W.ss[i].prep key val }, ok')) by unfold did1; simp only [getD_at hi, plus_ins hrs]; rw [if_neg (fun hh => hst hh.1)]; simp [Sess.li]]
  exact keep_any base X S gR cR G C W i 1 11 _ h0 lo hz hbs hi (by omega) key val hkz hvz hrs _ rfl (fun k hk => by rcases j4 hk with rfl | rfl | rfl | rfl <;> rfl))
 have H0 := hD h0
 have HG2 := hD (show ∀ i j, i < W.ss.length → j < 4 → w.heap.size ≠ G i j from fun i j hi hj => by have := (h.ls i j hi hj).row.lt; omega)
 have H := hD h
 have HZ := hD hz
 have HW := hD hw
 have B0 := hD b0
 have HX0 := hD X0
 have HZS := hD hzs
 have HG := hD hgg
 have HR := hD hr
 clear h hz hw b0 X0 hzs hgg hr h0
 have e2 : (W.ss[i].st == 2) = false := beq_eq_false_iff_ne.2 hst
 ·skip
  go_enter Tryz.func45, Tryz.ntmps45
  go_wp2_with fail
  have hsz0 := HZS.out
  have y0 : ((w.alloc (.cells #[.int .i64 11, .string key, .string val] 41)).alloc (.cells #[.int .i64 0, .string ⟨#[]⟩, .int .i64 0] 46)).cell? ⟨w.heap.size, 0, none⟩ = some (.int .i64 11) := by simp [go_sem]
  have y1 : ((w.alloc (.cells #[.int .i64 11, .string key, .string val] 41)).alloc (.cells #[.int .i64 0, .string ⟨#[]⟩, .int .i64 0] 46)).cell? ⟨w.heap.size, 1, none⟩ = some (.string key) := by simp [go_sem]
  have y2 : ((w.alloc (.cells #[.int .i64 11, .string key, .string val] 41)).alloc (.cells #[.int .i64 0, .string ⟨#[]⟩, .int .i64 0] 46)).cell? ⟨w.heap.size, 2, none⟩ = some (.string val) := by simp [go_sem]
  generalize hA : ((w.alloc (.cells #[.int .i64 11, .string key, .string val] 41)).alloc (.cells #[.int .i64 0, .string ⟨#[]⟩, .int .i64 0] 46)) = w8 at *
  have hw8 : w.heap.size < w8.heap.size := by omega
  have dS := hD (show w8.drew.cell? ⟨w.heap.size, 0, none⟩ = some (.int .i64 11) ∧ w8.drew.cell? ⟨w.heap.size, 1, none⟩ = some (.string key) ∧ w8.drew.cell? ⟨w.heap.size, 2, none⟩ = some (.string val) from ⟨y0, y1, y2⟩)
  go_region_held3 (fun wx => wx.cell? ⟨w.heap.size, 0, none⟩ = some (.int .i64 11) ∧ wx.cell? ⟨w.heap.size, 1, none⟩ = some (.string key) ∧ wx.cell? ⟨w.heap.size, 2, none⟩ = some (.string val))
   (first
    | with_reducible exact ⟨y0, y1, y2⟩
    | with_reducible exact dS.out
    | with_reducible exact ⟨cell_set3' z0 (by omega), cell_set3' z1 (by omega), cell_set3' z2 (by omega)⟩
    | with_reducible exact ⟨z0, z1, z2⟩)
   (first
    | (
     go_at_call 70
     refine (HC.out _ (by first | exact H0.out | exact H0.out.kept (Below.refl _ _).drew | exact H0.out.kept (below_drewN (Below.refl _ _) _)) (by first | exact hbs | assumption)).mono ?_
     rintro e wB ⟨rfl, hp1, hp2, hp3⟩
     have hpB : ExPost w8 base X S gR G W.ss.length r (.returned (ansV r.2.kind r.2.text)) wB := ⟨rfl, hp1, ⟨hp2.os, hp2.tape, hp2.output, hp2.size, hp2.block⟩, hp3⟩
     have hxB := hpB.2.2.2 w.heap.size hw8 (by omega) (by omega) (by omega) HG2.out
     have z0 := (World.cell?_of_block (a := ⟨w.heap.size, 0, none⟩) hxB).trans y0
     have z1 := (World.cell?_of_block (a := ⟨w.heap.size, 1, none⟩) hxB).trans y1
     have z2 := (World.cell?_of_block (a := ⟨w.heap.size, 2, none⟩) hxB).trans y2
     have RB := HX0.out.same (hpB.2.2.2 (w.heap.size + 1) (by omega) (by omega) (by omega) (by omega) HG.out)
     have r0 := RB.cell (j := 0) (by simp)
     have r1 := RB.cell (j := 1) (by simp)
     have r2 := RB.cell (j := 2) (by simp)
     have s0 := RB.frozen 0
     have s1 := RB.frozen 1
     have s2 := RB.frozen 2
     simp only [gCZ, gCS] at r0 r1 r2
     unfold ansV))
  have HP := hD hpB
  have HRB := hD RB
  clear hpB hp1 hp2 hp3 hxB z0 z1 z2 RB
  go_wp2
  refine bodyPost_ret (v := .agg #[.int .i64 r.2.kind, .string r.2.text, .int .i64 0]) (by simp [results, Tryz.results45, go_sem, r0, r1, r2]) rfl ?_
  exact HP.out.laid B0.out hb (by omega) HRB.out _ _ _
end Go.Proofs.YtpbaobmegomfpabGreatDoor
namespace Go.Proofs.YtpbaobmegomfpabGreatDoor
open Go.RowKit
theorem cell_new1 {w : World} {o : Obj} {p : Addr} {u : Value} (hp : p.block < w.heap.size) (h : w.cell? p = some u) : (w.alloc o).cell? p = some u := (((Below.refl w.heap.size w).alloc (nL _) o).cell hp).trans h
set_option maxHeartbeats 2000000 in
theorem execute_get (base X S gR cR : Nat) (G C : Nat → Nat → Nat) (W : Wd) (i : Nat) (key val : ByteArray) (w : World) (h : OwnD w X S gR cR G C W) (lo : LoD base X S gR G W.ss.length) (hw : WorldOk W) (hb : base ≤ w.heap.size) (hi : i < W.ss.length) (hkz : key.size ≤ 8) (hvz : val.size ≤ 60) (hst : W.ss[i].st ≠ 2) :
  Calls Tryz.prog 45 #[.pointer (some ⟨X, 0, none⟩), .int .i64 i, .agg #[.int .i64 6, .string key, .string val]] w (ExPost w base X S gR G W.ss.length (did1 W i 6 key val)) := by
 have hz := worldOk_sz hw
 have hXw := h.box.lt
 have hSw := h.blk.lt
 have x1 := h.box.cell (j := 1) (by simp)
 simp only [gCZ, gCS] at x1
 unfold slc at x1
 have c0 := h.st i hi
 have hii : (i : Int) < (W.ss.length : Int) := by omega
 have b0 : Below w.heap.size w ((w.alloc (.cells #[.int .i64 6, .string key, .string val] 41)).alloc (.cells #[.int .i64 0, .string ⟨#[]⟩, .int .i64 0] 46)) := ((Below.refl _ _).alloc (nL _) _).alloc (by simp) _
 have h0 := h.kept b0
 have X0 : RowTo ((w.alloc (.cells #[.int .i64 6, .string key, .string val] 41)).alloc (.cells #[.int .i64 0, .string ⟨#[]⟩, .int .i64 0] 46)) (w.heap.size + 1) 46 3 [.int .i64 0, .string ⟨#[]⟩, .int .i64 0] := by
  have := RowTo.whole (w.alloc (.cells #[.int .i64 6, .string key, .string val] 41)) #[.int .i64 0, .string ⟨#[]⟩, .int .i64 0] 46
  simpa using this
 have hzs : ((w.alloc (.cells #[.int .i64 6, .string key, .string val] 41)).alloc (.cells #[.int .i64 0, .string ⟨#[]⟩, .int .i64 0] 46)).heap.size = w.heap.size + 1 + 1 := by simp
 have hgr := h.rows.row.lt
 have hgg : ∀ i j, i < W.ss.length → j < 4 → w.heap.size + 1 ≠ G i j := fun i j hi hj => by have := (h.ls i j hi hj).row.lt; omega
 obtain ⟨r, hr⟩ : ∃ r, r = did1 W i 6 key val := ⟨_, rfl⟩
 rw [← hr]
 have hbs : base ≤ ((w.alloc (.cells #[.int .i64 6, .string key, .string val] 41)).alloc (.cells #[.int .i64 0, .string ⟨#[]⟩, .int .i64 0] 46)).heap.size := by omega
 have hd : r = (W, fnd' (findA [W.ss[i].set] key)) := by
  rw [hr]; unfold did1; simp only [getD_at hi]; rw [if_neg (fun hh => hst hh.1)]; simp only [findA]; simp
  cases atL W.ss[i].set key <;> rfl
 have hans : ansOf (findA [W.ss[i].set] key) = ansV r.2.kind r.2.text := by
  rw [hd]
  cases findA [W.ss[i].set] key <;> rfl
 have HC := hD (show ∀ (w9 : World) (b9 : Nat), b9 < w9.heap.size → w9.cell? ⟨b9, 0, none⟩ = some (.slice (some ⟨G i 0, 0, none⟩) W.ss[i].set.length (C i 0)) → Lst w9 w9.heap.size (.slice (some ⟨G i 0, 0, none⟩) W.ss[i].set.length (C i 0)) W.ss[i].set → Calls Tryz.prog 68 #[.string key, .slice (some ⟨b9, 0, none⟩) 1 1] w9 (fun e w' => e = .returned (ansV r.2.kind r.2.text) ∧ Below w9.heap.size w9 w') from fun w9 b9 hb9 c0 l0 => by
  rw [← hans]
  refine find_any key b9 [W.ss[i].set] (fun n => ([.slice (some ⟨G i 0, 0, none⟩) W.ss[i].set.length (C i 0)] : List Value).getD n (.int .i64 0)) w9 hb9 (by simp) (fun n hn => ?_)
  obtain rfl : n = 0 := by simp at hn; omega
  exact ⟨c0, l0, (pairsB_rising (hw.sess i hi).set).1⟩)
 have H0 := hD h0
 have HD := hD hd
 have L0 := hD (show Lst ((w.alloc (.cells #[.int .i64 6, .string key, .string val] 41)).alloc (.cells #[.int .i64 0, .string ⟨#[]⟩, .int .i64 0] 46)) ((w.alloc (.cells #[.int .i64 6, .string key, .string val] 41)).alloc (.cells #[.int .i64 0, .string ⟨#[]⟩, .int .i64 0] 46)).heap.size (.slice (some ⟨G i 0, 0, none⟩) W.ss[i].set.length (C i 0)) W.ss[i].set from h0.list hz hi (j := 0) (by omega))
 have H := hD h
 have HZ := hD hz
 have HW := hD hw
 have B0 := hD b0
 have HX0 := hD X0
 have HZS := hD hzs
 have HG := hD hgg
 have HR := hD hr
 clear h hz hw b0 X0 hzs hgg hr h0 hd hans
 have e2 : (W.ss[i].st == 2) = false := beq_eq_false_iff_ne.2 hst
 ·skip
  go_enter Tryz.func45, Tryz.ntmps45
  go_wp2_with fail
  have hsz0 := HZS.out
  have y0 : ((w.alloc (.cells #[.int .i64 6, .string key, .string val] 41)).alloc (.cells #[.int .i64 0, .string ⟨#[]⟩, .int .i64 0] 46)).cell? ⟨w.heap.size, 1, none⟩ = some (.string key) := by simp [go_sem]
  have y1 : ((w.alloc (.cells #[.int .i64 6, .string key, .string val] 41)).alloc (.cells #[.int .i64 0, .string ⟨#[]⟩, .int .i64 0] 46)).cell? ⟨S, i * 5 + 1, none⟩ = some (.slice (some ⟨G i 0, 0, none⟩) W.ss[i].set.length (C i 0)) := H0.out.cs i 0 hi (by omega)
  generalize hA : ((w.alloc (.cells #[.int .i64 6, .string key, .string val] 41)).alloc (.cells #[.int .i64 0, .string ⟨#[]⟩, .int .i64 0] 46)) = w8 at *
  have hw8 : w.heap.size < w8.heap.size := by omega
  have hS8 : S < w8.heap.size := by omega
  have hX8 : X < w8.heap.size := by omega
  have dS := hD (show w8.drew.cell? ⟨w.heap.size, 1, none⟩ = some (.string key) ∧ w8.drew.cell? ⟨S, i * 5 + 1, none⟩ = some (.slice (some ⟨G i 0, 0, none⟩) W.ss[i].set.length (C i 0)) from ⟨y0, y1⟩)
  have dA := hD (show (w8.alloc (.cells #[.slice (some ⟨G i 0, 0, none⟩) W.ss[i].set.length (C i 0)] 27)).cell? ⟨w.heap.size, 1, none⟩ = some (.string key) ∧ (w8.alloc (.cells #[.slice (some ⟨G i 0, 0, none⟩) W.ss[i].set.length (C i 0)] 27)).cell? ⟨S, i * 5 + 1, none⟩ = some (.slice (some ⟨G i 0, 0, none⟩) W.ss[i].set.length (C i 0)) from ⟨cell_new1 hw8 y0, cell_new1 hS8 y1⟩)
  have dB := hD (show (w8.drew.alloc (.cells #[.slice (some ⟨G i 0, 0, none⟩) W.ss[i].set.length (C i 0)] 27)).cell? ⟨w.heap.size, 1, none⟩ = some (.string key) ∧ (w8.drew.alloc (.cells #[.slice (some ⟨G i 0, 0, none⟩) W.ss[i].set.length (C i 0)] 27)).cell? ⟨S, i * 5 + 1, none⟩ = some (.slice (some ⟨G i 0, 0, none⟩) W.ss[i].set.length (C i 0)) from ⟨cell_new1 (w := w8.drew) hw8 y0, cell_new1 (w := w8.drew) hS8 y1⟩)
  have dC := hD (show (w8.alloc (.cells #[.slice (some ⟨G i 0, 0, none⟩) W.ss[i].set.length (C i 0)] 27)).drew.cell? ⟨w.heap.size, 1, none⟩ = some (.string key) ∧ (w8.alloc (.cells #[.slice (some ⟨G i 0, 0, none⟩) W.ss[i].set.length (C i 0)] 27)).drew.cell? ⟨S, i * 5 + 1, none⟩ = some (.slice (some ⟨G i 0, 0, none⟩) W.ss[i].set.length (C i 0)) from ⟨cell_new1 (w := w8) hw8 y0, cell_new1 (w := w8) hS8 y1⟩)
  go_region_held3 (fun wx => wx.cell? ⟨w.heap.size, 1, none⟩ = some (.string key) ∧ wx.cell? ⟨S, i * 5 + 1, none⟩ = some (.slice (some ⟨G i 0, 0, none⟩) W.ss[i].set.length (C i 0)))
   (first
    | with_reducible exact ⟨y0, y1⟩
    | with_reducible exact dS.out
    | with_reducible exact dA.out
    | with_reducible exact dB.out
    | with_reducible exact dC.out
    | with_reducible exact ⟨cell_set3' z0 (by omega), cell_set3' z1 (by omega)⟩
    | with_reducible exact ⟨z0, z1⟩
    | (trace_state; fail))
   (first
    | (
     go_at_call 68
     refine (HC.out _ _ (by simp; omega) (by rw [← hsz0]; simp [go_sem]) (by first | exact (L0.out.step ((Below.refl _ _).alloc (nL _) _)) | exact (L0.out.step (((Below.refl _ _).drew).alloc (nL _) _)))).mono ?_
     rintro e wB ⟨rfl, hy⟩
     have kB : Below w8.heap.size w8 wB := ⟨hy.os, hy.tape, hy.output, by have := hy.size; simp at this; omega, fun b hb => (hy.block b (by simp; omega)).trans (Below.heap_alloc _ _ _ hb)⟩
     have z0 := (kB.cell (p := ⟨w.heap.size, 1, none⟩) hw8).trans y0
     have z1 := (kB.cell (p := ⟨S, i * 5 + 1, none⟩) hS8).trans y1
     have RB := HX0.out.below kB HX0.out.lt
     have r0 := RB.cell (j := 0) (by simp)
     have r1 := RB.cell (j := 1) (by simp)
     have r2 := RB.cell (j := 2) (by simp)
     have s0 := RB.frozen 0
     have s1 := RB.frozen 1
     have s2 := RB.frozen 2
     simp only [gCZ, gCS] at r0 r1 r2
     unfold ansV))
  have HP := hD (show ExPost w8 base X S gR G W.ss.length r (.returned (ansV r.2.kind r.2.text)) wB by
   have e := HD.out
   rw [e]
   exact ExPost.same H0.out lo HZ.out hbs rfl kB)
  have HRB := hD RB
  clear kB hy RB z0 z1
  go_wp2
  refine bodyPost_ret (v := .agg #[.int .i64 r.2.kind, .string r.2.text, .int .i64 0]) (by simp [results, Tryz.results45, go_sem, r0, r1, r2]) rfl ?_
  exact HP.out.laid B0.out hb (by omega) HRB.out _ _ _
set_option maxHeartbeats 2000000 in
theorem execute_read (base X S gR cR : Nat) (G C : Nat → Nat → Nat) (W : Wd) (i : Nat) (key val : ByteArray) (w : World) (h : OwnD w X S gR cR G C W) (lo : LoD base X S gR G W.ss.length) (hw : WorldOk W) (hb : base ≤ w.heap.size) (hi : i < W.ss.length) (hkz : key.size ≤ 8) (hvz : val.size ≤ 60) (hst : W.ss[i].st ≠ 2) :
  Calls Tryz.prog 45 #[.pointer (some ⟨X, 0, none⟩), .int .i64 i, .agg #[.int .i64 7, .string key, .string val]] w (ExPost w base X S gR G W.ss.length (did1 W i 7 key val)) := by
 have hz := worldOk_sz hw
 have hXw := h.box.lt
 have hSw := h.blk.lt
 have x1 := h.box.cell (j := 1) (by simp)
 simp only [gCZ, gCS] at x1
 unfold slc at x1
 have c0 := h.st i hi
 have hii : (i : Int) < (W.ss.length : Int) := by omega
 have b0 : Below w.heap.size w ((w.alloc (.cells #[.int .i64 7, .string key, .string val] 41)).alloc (.cells #[.int .i64 0, .string ⟨#[]⟩, .int .i64 0] 46)) := ((Below.refl _ _).alloc (nL _) _).alloc (by simp) _
 have h0 := h.kept b0
 have X0 : RowTo ((w.alloc (.cells #[.int .i64 7, .string key, .string val] 41)).alloc (.cells #[.int .i64 0, .string ⟨#[]⟩, .int .i64 0] 46)) (w.heap.size + 1) 46 3 [.int .i64 0, .string ⟨#[]⟩, .int .i64 0] := by
  have := RowTo.whole (w.alloc (.cells #[.int .i64 7, .string key, .string val] 41)) #[.int .i64 0, .string ⟨#[]⟩, .int .i64 0] 46
  simpa using this
 have hzs : ((w.alloc (.cells #[.int .i64 7, .string key, .string val] 41)).alloc (.cells #[.int .i64 0, .string ⟨#[]⟩, .int .i64 0] 46)).heap.size = w.heap.size + 1 + 1 := by simp
 have hgr := h.rows.row.lt
 have hgg : ∀ i j, i < W.ss.length → j < 4 → w.heap.size + 1 ≠ G i j := fun i j hi hj => by have := (h.ls i j hi hj).row.lt; omega
 obtain ⟨r, hr⟩ : ∃ r, r = did1 W i 7 key val := ⟨_, rfl⟩
 rw [← hr]
 have hbs : base ≤ ((w.alloc (.cells #[.int .i64 7, .string key, .string val] 41)).alloc (.cells #[.int .i64 0, .string ⟨#[]⟩, .int .i64 0] 46)).heap.size := by omega
 have hd : r = (W, fnd' (findA [W.ss[i].wr, W.rows] key)) := by
  rw [hr]; unfold did1; simp only [getD_at hi]; rw [if_neg (fun hh => hst hh.1)]; simp only [findA]; simp
  cases atL W.ss[i].wr key <;> cases atL W.rows key <;> rfl
 have hans : ansOf (findA [W.ss[i].wr, W.rows] key) = ansV r.2.kind r.2.text := by
  rw [hd]
  cases findA [W.ss[i].wr, W.rows] key <;> rfl
 have HC := hD (show ∀ (w9 : World) (b9 : Nat), b9 < w9.heap.size → w9.cell? ⟨b9, 0, none⟩ = some (.slice (some ⟨G i 3, 0, none⟩) W.ss[i].wr.length (C i 3)) → w9.cell? ⟨b9, 1, none⟩ = some (.slice (some ⟨gR, 0, none⟩) W.rows.length cR) → Lst w9 w9.heap.size (.slice (some ⟨G i 3, 0, none⟩) W.ss[i].wr.length (C i 3)) W.ss[i].wr → Lst w9 w9.heap.size (.slice (some ⟨gR, 0, none⟩) W.rows.length cR) W.rows → Calls Tryz.prog 68 #[.string key, .slice (some ⟨b9, 0, none⟩) 2 2] w9 (fun e w' => e = .returned (ansV r.2.kind r.2.text) ∧ Below w9.heap.size w9 w') from fun w9 b9 hb9 c0 c1 l0 l1 => by
  rw [← hans]
  refine find_any key b9 [W.ss[i].wr, W.rows] (fun n => ([.slice (some ⟨G i 3, 0, none⟩) W.ss[i].wr.length (C i 3), .slice (some ⟨gR, 0, none⟩) W.rows.length cR] : List Value).getD n (.int .i64 0)) w9 hb9 (by simp) (fun n hn => ?_)
  have hn2 : n < 2 := hn
  rcases Nat.lt_or_ge n 1 with h1 | h1
  ·obtain rfl : n = 0 := by omega
   exact ⟨c0, l0, (pairsB_rising (hw.sess i hi).wr).1⟩
  ·obtain rfl : n = 1 := by omega
   exact ⟨c1, l1, (pairsB_rising hw.rows).1⟩)
 have H0 := hD h0
 have HD := hD hd
 have L0 := hD (show Lst ((w.alloc (.cells #[.int .i64 7, .string key, .string val] 41)).alloc (.cells #[.int .i64 0, .string ⟨#[]⟩, .int .i64 0] 46)) ((w.alloc (.cells #[.int .i64 7, .string key, .string val] 41)).alloc (.cells #[.int .i64 0, .string ⟨#[]⟩, .int .i64 0] 46)).heap.size (.slice (some ⟨G i 3, 0, none⟩) W.ss[i].wr.length (C i 3)) W.ss[i].wr from h0.list hz hi (j := 3) (by omega))
 have L1 := hD (show Lst ((w.alloc (.cells #[.int .i64 7, .string key, .string val] 41)).alloc (.cells #[.int .i64 0, .string ⟨#[]⟩, .int .i64 0] 46)) ((w.alloc (.cells #[.int .i64 7, .string key, .string val] 41)).alloc (.cells #[.int .i64 0, .string ⟨#[]⟩, .int .i64 0] 46)).heap.size (.slice (some ⟨gR, 0, none⟩) W.rows.length cR) W.rows from (h0.wld hz).rows)
 have H := hD h
 have HZ := hD hz
 have HW := hD hw
 have B0 := hD b0
 have HX0 := hD X0
 have HZS := hD hzs
 have HG := hD hgg
 have HR := hD hr
 clear h hz hw b0 X0 hzs hgg hr h0 hd hans
 have e2 : (W.ss[i].st == 2) = false := beq_eq_false_iff_ne.2 hst
 ·skip
  go_enter Tryz.func45, Tryz.ntmps45
  go_wp2_with fail
  have hsz0 := HZS.out
  have y0 : ((w.alloc (.cells #[.int .i64 7, .string key, .string val] 41)).alloc (.cells #[.int .i64 0, .string ⟨#[]⟩, .int .i64 0] 46)).cell? ⟨w.heap.size, 1, none⟩ = some (.string key) := by simp [go_sem]
  have y1 : ((w.alloc (.cells #[.int .i64 7, .string key, .string val] 41)).alloc (.cells #[.int .i64 0, .string ⟨#[]⟩, .int .i64 0] 46)).cell? ⟨S, i * 5 + 4, none⟩ = some (.slice (some ⟨G i 3, 0, none⟩) W.ss[i].wr.length (C i 3)) := H0.out.cs i 3 hi (by omega)
  have y2 : ((w.alloc (.cells #[.int .i64 7, .string key, .string val] 41)).alloc (.cells #[.int .i64 0, .string ⟨#[]⟩, .int .i64 0] 46)).cell? ⟨X, 0, none⟩ = some (.slice (some ⟨gR, 0, none⟩) W.rows.length cR) := H0.out.box.cell (j := 0) (by simp)
  generalize hA : ((w.alloc (.cells #[.int .i64 7, .string key, .string val] 41)).alloc (.cells #[.int .i64 0, .string ⟨#[]⟩, .int .i64 0] 46)) = w8 at *
  have hw8 : w.heap.size < w8.heap.size := by omega
  have hS8 : S < w8.heap.size := by omega
  have hX8 : X < w8.heap.size := by omega
  have dS := hD (show w8.drew.cell? ⟨w.heap.size, 1, none⟩ = some (.string key) ∧ w8.drew.cell? ⟨S, i * 5 + 4, none⟩ = some (.slice (some ⟨G i 3, 0, none⟩) W.ss[i].wr.length (C i 3)) ∧ w8.drew.cell? ⟨X, 0, none⟩ = some (.slice (some ⟨gR, 0, none⟩) W.rows.length cR) from ⟨y0, y1, y2⟩)
  have dA := hD (show (w8.alloc (.cells #[.slice (some ⟨G i 3, 0, none⟩) W.ss[i].wr.length (C i 3), .slice (some ⟨gR, 0, none⟩) W.rows.length cR] 27)).cell? ⟨w.heap.size, 1, none⟩ = some (.string key) ∧ (w8.alloc (.cells #[.slice (some ⟨G i 3, 0, none⟩) W.ss[i].wr.length (C i 3), .slice (some ⟨gR, 0, none⟩) W.rows.length cR] 27)).cell? ⟨S, i * 5 + 4, none⟩ = some (.slice (some ⟨G i 3, 0, none⟩) W.ss[i].wr.length (C i 3)) ∧ (w8.alloc (.cells #[.slice (some ⟨G i 3, 0, none⟩) W.ss[i].wr.length (C i 3), .slice (some ⟨gR, 0, none⟩) W.rows.length cR] 27)).cell? ⟨X, 0, none⟩ = some (.slice (some ⟨gR, 0, none⟩) W.rows.length cR) from ⟨cell_new1 hw8 y0, cell_new1 hS8 y1, cell_new1 hX8 y2⟩)
  have dB := hD (show (w8.drew.alloc (.cells #[.slice (some ⟨G i 3, 0, none⟩) W.ss[i].wr.length (C i 3), .slice (some ⟨gR, 0, none⟩) W.rows.length cR] 27)).cell? ⟨w.heap.size, 1, none⟩ = some (.string key) ∧ (w8.drew.alloc (.cells #[.slice (some ⟨G i 3, 0, none⟩) W.ss[i].wr.length (C i 3), .slice (some ⟨gR, 0, none⟩) W.rows.length cR] 27)).cell? ⟨S, i * 5 + 4, none⟩ = some (.slice (some ⟨G i 3, 0, none⟩) W.ss[i].wr.length (C i 3)) ∧ (w8.drew.alloc (.cells #[.slice (some ⟨G i 3, 0, none⟩) W.ss[i].wr.length (C i 3), .slice (some ⟨gR, 0, none⟩) W.rows.length cR] 27)).cell? ⟨X, 0, none⟩ = some (.slice (some ⟨gR, 0, none⟩) W.rows.length cR) from ⟨cell_new1 (w := w8.drew) hw8 y0, cell_new1 (w := w8.drew) hS8 y1, cell_new1 (w := w8.drew) hX8 y2⟩)
  have dC := hD (show (w8.alloc (.cells #[.slice (some ⟨G i 3, 0, none⟩) W.ss[i].wr.length (C i 3), .slice (some ⟨gR, 0, none⟩) W.rows.length cR] 27)).drew.cell? ⟨w.heap.size, 1, none⟩ = some (.string key) ∧ (w8.alloc (.cells #[.slice (some ⟨G i 3, 0, none⟩) W.ss[i].wr.length (C i 3), .slice (some ⟨gR, 0, none⟩) W.rows.length cR] 27)).drew.cell? ⟨S, i * 5 + 4, none⟩ = some (.slice (some ⟨G i 3, 0, none⟩) W.ss[i].wr.length (C i 3)) ∧ (w8.alloc (.cells #[.slice (some ⟨G i 3, 0, none⟩) W.ss[i].wr.length (C i 3), .slice (some ⟨gR, 0, none⟩) W.rows.length cR] 27)).drew.cell? ⟨X, 0, none⟩ = some (.slice (some ⟨gR, 0, none⟩) W.rows.length cR) from ⟨cell_new1 (w := w8) hw8 y0, cell_new1 (w := w8) hS8 y1, cell_new1 (w := w8) hX8 y2⟩)
  go_region_held3 (fun wx => wx.cell? ⟨w.heap.size, 1, none⟩ = some (.string key) ∧ wx.cell? ⟨S, i * 5 + 4, none⟩ = some (.slice (some ⟨G i 3, 0, none⟩) W.ss[i].wr.length (C i 3)) ∧ wx.cell? ⟨X, 0, none⟩ = some (.slice (some ⟨gR, 0, none⟩) W.rows.length cR))
   (first
    | with_reducible exact ⟨y0, y1, y2⟩
    | with_reducible exact dS.out
    | with_reducible exact dA.out
    | with_reducible exact dB.out
    | with_reducible exact dC.out
    | with_reducible exact ⟨cell_set3' z0 (by omega), cell_set3' z1 (by omega), cell_set3' z2 (by omega)⟩
    | with_reducible exact ⟨z0, z1, z2⟩
    | (trace_state; fail))
   (first
    | (
     go_at_call 68
     refine (HC.out _ _ (by simp; omega) (by rw [← hsz0]; simp [go_sem]) (by rw [← hsz0]; simp [go_sem]) (by first | exact (L0.out.step ((Below.refl _ _).alloc (nL _) _)) | exact (L0.out.step (((Below.refl _ _).drew).alloc (nL _) _))) (by first | exact (L1.out.step ((Below.refl _ _).alloc (nL _) _)) | exact (L1.out.step (((Below.refl _ _).drew).alloc (nL _) _)))).mono ?_
     rintro e wB ⟨rfl, hy⟩
     have kB : Below w8.heap.size w8 wB := ⟨hy.os, hy.tape, hy.output, by have := hy.size; simp at this; omega, fun b hb => (hy.block b (by simp; omega)).trans (Below.heap_alloc _ _ _ hb)⟩
     have z0 := (kB.cell (p := ⟨w.heap.size, 1, none⟩) hw8).trans y0
     have z1 := (kB.cell (p := ⟨S, i * 5 + 4, none⟩) hS8).trans y1
     have z2 := (kB.cell (p := ⟨X, 0, none⟩) hX8).trans y2
     have RB := HX0.out.below kB HX0.out.lt
     have r0 := RB.cell (j := 0) (by simp)
     have r1 := RB.cell (j := 1) (by simp)
     have r2 := RB.cell (j := 2) (by simp)
     have s0 := RB.frozen 0
     have s1 := RB.frozen 1
     have s2 := RB.frozen 2
     simp only [gCZ, gCS] at r0 r1 r2
     unfold ansV))
  have HP := hD (show ExPost w8 base X S gR G W.ss.length r (.returned (ansV r.2.kind r.2.text)) wB by
   have e := HD.out
   rw [e]
   exact ExPost.same H0.out lo HZ.out hbs rfl kB)
  have HRB := hD RB
  clear kB hy RB z0 z1 z2
  go_wp2
  refine bodyPost_ret (v := .agg #[.int .i64 r.2.kind, .string r.2.text, .int .i64 0]) (by simp [results, Tryz.results45, go_sem, r0, r1, r2]) rfl ?_
  exact HP.out.laid B0.out hb (by omega) HRB.out _ _ _
end Go.Proofs.YtpbaobmegomfpabGreatDoor
namespace Go.Proofs.YtpbaobmegomfpabGreatDoor
open Go.RowKit
theorem execute_plain (base X S gR cR : Nat) (G C : Nat → Nat → Nat) (W : Wd) (i : Nat) (k : Int) (key val : ByteArray) (w : World) (h : OwnD w X S gR cR G C W) (lo : LoD base X S gR G W.ss.length) (hw : WorldOk W) (hb : base ≤ w.heap.size) (hi : i < W.ss.length) (hkz : key.size ≤ 8) (hvz : val.size ≤ 60) (h1 : 1 ≤ k) (h2 : k ≤ 11) (h8 : k ≠ 8) :
  Calls Tryz.prog 45 #[.pointer (some ⟨X, 0, none⟩), .int .i64 i, .agg #[.int .i64 k, .string key, .string val]] w (ExPost w base X S gR G W.ss.length (did1 W i k key val)) := by
 by_cases hk : k = 2 ∨ k = 3
 ·rcases hk with rfl | rfl
  ·exact execute_commit base X S gR cR G C W i key val w h lo hw hb hi hkz hvz
  ·exact execute_rollback base X S gR cR G C W i key val w h lo hw hb hi hkz hvz
 by_cases hst : W.ss[i].st = 2
 ·exact execute_failed base X S gR cR G C W i k key val w h lo hw hb hi hkz hvz hst hk
 obtain rfl | rfl | rfl | rfl | rfl | rfl | rfl | rfl : k = 1 ∨ k = 4 ∨ k = 5 ∨ k = 6 ∨ k = 7 ∨ k = 9 ∨ k = 10 ∨ k = 11 := by omega
 ·exact execute_begin base X S gR cR G C W i key val w h lo hw hb hi hkz hvz hst
 ·exact execute_reset base X S gR cR G C W i key val w h lo hw hb hi hkz hvz hst
 ·exact execute_fail base X S gR cR G C W i key val w h lo hw hb hi hkz hvz hst
 ·exact execute_get base X S gR cR G C W i key val w h lo hw hb hi hkz hvz hst
 ·exact execute_read base X S gR cR G C W i key val w h lo hw hb hi hkz hvz hst
 ·exact execute_set base X S gR cR G C W i key val w h lo hw hb hi hkz hvz hst
 ·exact execute_put base X S gR cR G C W i key val w h lo hw hb hi hkz hvz hst
 ·exact execute_prep base X S gR cR G C W i key val w h lo hw hb hi hkz hvz hst
end Go.Proofs.YtpbaobmegomfpabGreatDoor
namespace Go.Proofs.YtpbaobmegomfpabGreatDoor
open Go.RowKit
set_option maxHeartbeats 400000 in
theorem bounded_any (lo hi lim : Int) (w : World) :
  Calls Tryz.prog 129 #[.int .u8 lo, .int .u8 hi, .int .i64 lim] w fun e w' => e = .returned (.func (.func 140) #[] #[.pointer (some ⟨w.heap.size + 1 + 1, 0, none⟩), .pointer (some ⟨w.heap.size, 0, none⟩), .pointer (some ⟨w.heap.size + 1, 0, none⟩)]) ∧
   ((w.alloc (.cells #[.int .u8 lo] 5)).alloc (.cells #[.int .u8 hi] 5)).alloc (.cells #[.int .i64 lim] 3) = w' := by
 go_enter Tryz.func129, Tryz.ntmps129
 go_wp2
 go_ret
 exact ⟨rfl, rfl⟩
set_option maxHeartbeats 400000 in
theorem bounded1_any (s : ByteArray) (lo hi lim : Nat) (p1 p2 p3 : Addr) (w : World) (hs : s.size ≤ maxLen) (h1 : w.cell? p1 = some (.int .i64 lim)) (h2 : w.cell? p2 = some (.int .u8 lo)) (h3 : w.cell? p3 = some (.int .u8 hi)) :
  Calls Tryz.prog 140 #[.string s, .pointer (some p1), .pointer (some p2), .pointer (some p3)] w fun e w' => e = .returned (.bool (bndB lo hi lim s)) ∧ ∃ n, w' = w.drewN n := by
 unfold maxLen at hs
 by_cases h0 : s.size = 0
 ·have hb := hD (bndB_short (lo := lo) (hi := hi) (lim := lim) (.inl h0))
  go_enter Tryz.func140, Tryz.ntmps140
  go_wp2
  go_ret
  exact ⟨by rw [hb.out]; rfl, 0, rfl⟩
 have hz : ((s.size : Int) == 0) = false := beq_eq_false_iff_ne.2 (by omega)
 by_cases hl : lim < s.size
 ·have hb := hD (bndB_short (lo := lo) (hi := hi) (lim := lim) (.inr hl))
  go_enter Tryz.func140, Tryz.ntmps140
  go_wp2
  go_ret
  exact ⟨by rw [hb.out]; rfl, 0, rfl⟩
 have hl' : decide (lim < s.size) = false := decide_eq_false hl
 go_enter Tryz.func140, Tryz.ntmps140
 go_wp2
 go_loopw [18] (fun c w' => ∃ k : Nat, k ≤ s.size ∧ c = .int .i64 k ∧ Hid (∀ j (hj : j < s.size), j < k → lo ≤ s[j].toNat ∧ s[j].toNat ≤ hi) ∧ ∃ n, w' = w.drewN n) (fun c _ => s.size - (intOf c).toNat)
 case atStart => exact ⟨0, Nat.zero_le _, rfl, fun _ _ h => absurd h (Nat.not_lt_zero _), 0, rfl⟩
 case round =>
  obtain ⟨k, hk, rfl, hall, n, rfl⟩ := hrel
  by_cases hlt : k < s.size
  ·by_cases g1 : s[k].toNat < lo
   ·have hb := hD (bndB_bad (lo := lo) (hi := hi) (lim := lim) hlt (.inl g1))
    go_wp2
    go_quiet (fail)
    go_wp2
    go_ret
    exact ⟨by rw [hb.out]; rfl, n + nq, by rw [World.drewN_drewN]⟩
   ·by_cases g2 : hi < s[k].toNat
    ·have hb := hD (bndB_bad (lo := lo) (hi := hi) (lim := lim) hlt (.inr g2))
     have g1' : decide (s[k].toNat < lo) = false := decide_eq_false g1
     go_wp2
     go_quiet (fail)
     go_wp2
     go_ret
     exact ⟨by rw [hb.out]; rfl, n + nq, by rw [World.drewN_drewN]⟩
    ·have g1' : decide (s[k].toNat < lo) = false := decide_eq_false g1
     have g2' : decide (hi < s[k].toNat) = false := decide_eq_false g2
     go_wp2
     go_quiet (fail)
     go_wp2
     go_roundw
     case rel =>
      refine ⟨k + 1, by omega, by go_num, fun j hj hjk => ?_, n + nq, rfl⟩
      by_cases e : j = k
      ·subst e; omega
      ·exact hall.out j hj (by omega)
     case measure => simp [intOf]; omega
  ·have hb := hD (bndB_good (lo := lo) (hi := hi) (lim := lim) (s := s) (by omega) (by omega) (fun j hj => hall.out j hj (by omega)))
   go_wp2
   go_ret
   exact ⟨by rw [hb.out]; rfl, n, rfl⟩
set_option maxHeartbeats 400000 in
theorem name_any (s : ByteArray) (w : World) (hs : s.size ≤ maxLen) :
  Calls Tryz.prog 106 #[.string s] w fun e w' => e = .returned (.bool (bndB 97 122 8 s)) ∧ Below w.heap.size w w' := by
 go_enter Tryz.func106, Tryz.ntmps106
 go_wp2_with fail
 refine (bounded_any 97 122 8 _).mono ?_
 rintro e w' ⟨rfl, rfl⟩
 go_wp2_with fail
 refine (bounded1_any s 97 122 8 _ _ _ _ hs (by go_simp) (by go_simp) (by go_simp)).mono ?_
 rintro e w' ⟨rfl, n, rfl⟩
 go_wp2
 go_ret
 exact ⟨rfl, below_drewN ((((Below.refl _ _).alloc (nL _) _).alloc (by simp) _).alloc (by simp; omega) _) n⟩
end Go.Proofs.YtpbaobmegomfpabGreatDoor
namespace Go.Proofs.YtpbaobmegomfpabGreatDoor
open Go.RowKit
set_option maxHeartbeats 400000 in
theorem isValue_any (s : ByteArray) (w : World) (hs : s.size ≤ maxLen) :
  Calls Tryz.prog 130 #[.string s] w fun e w' => e = .returned (.bool (bndB 33 126 20 s)) ∧ Below w.heap.size w w' := by
 go_enter Tryz.func130, Tryz.ntmps130
 go_wp2_with fail
 refine (bounded_any 33 126 20 _).mono ?_
 rintro e w' ⟨rfl, rfl⟩
 go_wp2_with fail
 refine (bounded1_any s 33 126 20 _ _ _ _ hs (by go_simp) (by go_simp) (by go_simp)).mono ?_
 rintro e w' ⟨rfl, n, rfl⟩
 go_wp2
 go_ret
 exact ⟨rfl, below_drewN ((((Below.refl _ _).alloc (nL _) _).alloc (by simp) _).alloc (by simp; omega) _) n⟩
end Go.Proofs.YtpbaobmegomfpabGreatDoor
namespace Go.Proofs.YtpbaobmegomfpabGreatDoor
open Go.RowKit
structure Words (w : World) : Prop where
 room : 1 < w.heap.size
 cell : ∀ k, k ≤ 11 → w.cell? ⟨1, k, none⟩ = some (.string (wordAt k))
theorem Words.below {w w' : World} (h : Words w) (hb : Below w.heap.size w w') : Words w' :=
 ⟨Nat.lt_of_lt_of_le h.room hb.size, fun k hk => (hb.cell (p := ⟨1, k, none⟩) h.room).trans (h.cell k hk)⟩
theorem Words.alloc {w : World} (h : Words w) (o : Obj) : Words (w.alloc o) := h.below ((Below.refl _ _).alloc (nL _) _)
theorem Words.drewN {w : World} (h : Words w) (n : Nat) : Words (w.drewN n) := h.below (below_drewN (Below.refl _ _) n)
theorem bel_trans {a b c : World} (h : Below a.heap.size a b) (k : Below b.heap.size b c) : Below a.heap.size a c := h.trans (k.mono h.size)
set_option maxHeartbeats 400000 in
theorem indexByte_any (s : ByteArray) (w : World) :
  Calls Tryz.prog 151 #[.string s, .int .u8 32] w fun e w' => e = .returned (.int .i64 (Lib.indexByte s.data.toList 32)) ∧ w = w' := by
 go_enter Tryz.func151, Tryz.ntmps151
 go_wp2
 rw [run_callFunc_extern Tryz.func155 (by kernel_rfl) (by kernel_rfl) (by kernel_rfl) (e := Extern.BytealgIndexByte.indexByte) (by kernel_rfl), Lib.run_indexByteString]
 simp only [Result.andThen]
 rw [Oper.upon_value]
 go_wp2
 go_ret
 exact ⟨rfl, rfl⟩
set_option maxHeartbeats 400000 in
theorem index_any (s : ByteArray) (w : World) (hs : s.size ≤ maxLen) :
  Calls Tryz.prog 148 #[.string s, .string ⟨#[32]⟩] w fun e w' => e = .returned (.int .i64 (Lib.indexByte s.data.toList 32)) ∧ w = w' := by
 unfold maxLen at hs
 go_enter Tryz.func148, Tryz.ntmps148
 go_wp2_with (go_at_call 151; refine (indexByte_any s _).mono ?_; rintro e w' ⟨rfl, rfl⟩)
 ·have h : ([32] == s.toList) = true := by assumption
  have e : s.data.toList = [32] := by rw [← Lib.toList_data]; exact (beq_iff_eq.1 h).symm
  go_ret
  exact ⟨by rw [e]; rfl, rfl⟩
 ·go_ret
  exact ⟨rfl, rfl⟩
set_option maxHeartbeats 400000 in
theorem sliteCut_any (s : ByteArray) (w : World) (hs : s.size ≤ maxLen) :
  Calls Tryz.prog 142 #[.string s, .string ⟨#[32]⟩] w fun e w' => e = .returned (.tuple #[.string (cutA s), .string (cutB s), .bool (cutF s)]) ∧ ∃ n, w' = w.drewN n := by
 have hix := cutI_index s
 have hle := cutI_le s
 by_cases hf : cutI s < s.size
 ·have hF : cutF s = true := decide_eq_true hf
  rw [hF, if_pos rfl] at hix
  rw [hF]
  have hI := hD hix
  clear hix hF
  have hA := hD (show cutA s = s.extract 0 (cutI s) from rfl)
  have hB := hD (show cutB s = s.extract (cutI s + 1) s.size from rfl)
  generalize cutA s = A at hA ⊢
  generalize cutB s = B at hB ⊢
  generalize cutI s = i at *
  unfold maxLen at hs
  have c1 : (0 : Int) ≤ (i : Int) := by omega
  have c2 : (i : Int) ≤ (s.size : Int) := by omega
  have c3 : (0 : Int) ≤ (i : Int) + 1 := by omega
  have c4 : (i : Int) + 1 ≤ (s.size : Int) := by omega
  have c5 : IntKind.i64.wrap ((i : Int) + 1) = (i : Int) + 1 := IntWalk.i64_in _ (by omega)
  have c6 : ((i : Int) + 1).toNat = i + 1 := by omega
  go_enter Tryz.func142, Tryz.ntmps142
  go_wp2_with (go_at_call 148; refine (index_any s _ (by unfold maxLen; omega)).mono ?_; rw [hI.out]; rintro e w' ⟨rfl, rfl⟩)
  go_quiet (fail)
  go_wp2
  go_ret3
  exact ⟨by rw [hA.out, hB.out]; rfl, nq, rfl⟩
 ·have hF : cutF s = false := decide_eq_false hf
  have he : cutI s = s.size := by omega
  rw [hF, if_neg (by decide)] at hix
  rw [hF, cutA_all he, cutB_none he]
  have hI := hD hix
  clear hix hF he hf
  go_enter Tryz.func142, Tryz.ntmps142
  go_wp2_with (go_at_call 148; refine (index_any s _ hs).mono ?_; rw [hI.out]; rintro e w' ⟨rfl, rfl⟩)
  go_ret3
  exact ⟨rfl, 0, rfl⟩
theorem cut_any (s : ByteArray) (w : World) (hs : s.size ≤ maxLen) :
  Calls Tryz.prog 135 #[.string s, .string ⟨#[32]⟩] w fun e w' => e = .returned (.tuple #[.string (cutA s), .string (cutB s), .bool (cutF s)]) ∧ ∃ n, w' = w.drewN n := by
 go_enter Tryz.func135, Tryz.ntmps135
 go_wp2_with fail
 refine (sliteCut_any s _ hs).mono ?_
 rintro e w' ⟨rfl, n, rfl⟩
 go_wp2
 go_ret3
 exact ⟨rfl, n, rfl⟩
end Go.Proofs.YtpbaobmegomfpabGreatDoor
namespace Go.Proofs.YtpbaobmegomfpabGreatDoor
open Go.RowKit
set_option maxHeartbeats 400000 in
theorem kindOf_any (s : ByteArray) (w : World) (hW : Words w) :
  Calls Tryz.prog 136 #[.string s] w fun e w' => e = .returned (.int .i64 (kindN s)) ∧ w = w' := by
 have HW := hD hW
 clear hW
 go_enter Tryz.func136, Tryz.ntmps136
 go_wp2
 go_loop [3] (fun c => ∃ k : Nat, 1 ≤ k ∧ k ≤ 12 ∧ c = .int .i64 k ∧ Hid (∀ j, 1 ≤ j → j < k → wordL j ≠ s.data.toList)) (fun c => 12 - (intOf c).toNat)
 case atStart => exact ⟨1, by omega, by omega, rfl, fun j h1 h => by omega⟩
 case round =>
  obtain ⟨k, hk1, hk, rfl, hall⟩ := hrel
  by_cases hlt : k ≤ 11
  ·have hc := HW.out.cell k hlt
   have hwl := hD (wordAt_toList k)
   go_wp2
   ·have h : ((wordAt k).toList == s.toList) = true := by assumption
    rw [Lib.toList_data, Lib.toList_data, hwl.out, beq_iff_eq] at h
    have hk := kindN_hit hk1 hlt h
    go_ret
    exact ⟨ret_int (by rw [hk]), rfl⟩
   ·have h : ((wordAt k).toList == s.toList) = false := by assumption
    rw [Lib.toList_data, Lib.toList_data, hwl.out, beq_eq_false_iff_ne] at h
    go_round
    case rel =>
     refine ⟨k + 1, by omega, by omega, by go_num, fun j h1 hjk => ?_⟩
     by_cases e : j = k
     ·subst e; exact h
     ·exact hall.out j h1 (by omega)
    case measure => simp [intOf]; omega
  ·have hk := hD (kindN_none (fun j h1 h2 => hall.out j h1 (by omega)))
   go_wp2
   go_ret
   exact ⟨ret_int (by rw [hk.out]; rfl), rfl⟩
set_option maxHeartbeats 400000 in
theorem split_kind (s : ByteArray) (w : World) (hs : s.size ≤ maxLen) (hW : Words w) (h : kindN (cutA s) = 0) :
  Calls Tryz.prog 117 #[.string s] w fun e w' => e = .returned (.tuple #[.agg #[.int .i64 0, .string ⟨#[]⟩, .string ⟨#[]⟩], .int .i64 3]) ∧ Below w.heap.size w w' := by
 have HW := hD hW
 have H := hD h
 clear hW h
 go_enter Tryz.func117, Tryz.ntmps117
 go_wp2_with fail
 refine (cut_any s _ hs).mono ?_
 rintro e w1 ⟨rfl, n, rfl⟩
 go_wp2_with fail
 refine (kindOf_any (cutA s) _ ((HW.out.alloc _).drewN n)).mono ?_
 rw [H.out]
 rintro e w2 ⟨rfl, rfl⟩
 go_wp2
 refine bodyPost_ret (v := .tuple #[.agg #[.int .i64 0, .string ⟨#[]⟩, .string ⟨#[]⟩], .int .i64 3]) (by simp [results, Tryz.results117, go_sem]) rfl ⟨rfl, ?_⟩
 repeat' (first | exact Below.refl _ _ | assumption | with_reducible refine below_drewN ?_ _ | with_reducible refine Below.drew ?_ | with_reducible refine Below.setCell ?_ ?_ _ | with_reducible refine Below.alloc ?_ ?_ _ | (simp; done) | (simp; omega))
set_option maxHeartbeats 400000 in
theorem split_a (s : ByteArray) (w : World) (hs : s.size ≤ maxLen) (hW : Words w) (h : kindN (cutA s) ≠ 0) (h1 : cutF s = true) (h2 : (cutA (cutB s)).toList.isEmpty = true) :
  Calls Tryz.prog 117 #[.string s] w fun e w' => e = .returned (.tuple #[.agg #[.int .i64 0, .string ⟨#[]⟩, .string ⟨#[]⟩], .int .i64 4]) ∧ Below w.heap.size w w' := by
 have HW := hD hW
 have hk0 : ((kindN (cutA s) : Int) == 0) = false := beq_eq_false_iff_ne.2 (by omega)
 have hs2 : (cutB s).size ≤ maxLen := by rw [cutB_size]; omega
 clear hW h
 go_enter Tryz.func117, Tryz.ntmps117
 go_wp2_with fail
 refine (cut_any s _ hs).mono ?_
 rintro e w1 ⟨rfl, n, rfl⟩
 go_wp2_with fail
 refine (kindOf_any (cutA s) _ ((HW.out.alloc _).drewN n)).mono ?_
 rintro e w2 ⟨rfl, rfl⟩
 go_wp2_with fail
 refine (cut_any (cutB s) _ hs2).mono ?_
 rintro e w3 ⟨rfl, m, rfl⟩
 go_wp2
 refine bodyPost_ret (v := .tuple #[.agg #[.int .i64 0, .string ⟨#[]⟩, .string ⟨#[]⟩], .int .i64 4]) (by simp [results, Tryz.results117, go_sem]) rfl ⟨rfl, ?_⟩
 repeat' (first | exact Below.refl _ _ | assumption | with_reducible refine below_drewN ?_ _ | with_reducible refine Below.drew ?_ | with_reducible refine Below.setCell ?_ ?_ _ | with_reducible refine Below.alloc ?_ ?_ _ | (simp; done) | (simp; omega))
set_option maxHeartbeats 400000 in
theorem split_b (s : ByteArray) (w : World) (hs : s.size ≤ maxLen) (hW : Words w) (h : kindN (cutA s) ≠ 0) (h1 : cutF s = false) (h3 : cutF (cutB s) = false) :
  Calls Tryz.prog 117 #[.string s] w fun e w' => e = .returned (.tuple #[.agg #[.int .i64 (kindN (cutA s)), .string (cutA (cutB s)), .string (cutB (cutB s))], .int .i64 0]) ∧ Below w.heap.size w w' := by
 have HW := hD hW
 have hk0 : ((kindN (cutA s) : Int) == 0) = false := beq_eq_false_iff_ne.2 (by omega)
 have hs2 : (cutB s).size ≤ maxLen := by rw [cutB_size]; omega
 clear hW h
 go_enter Tryz.func117, Tryz.ntmps117
 go_wp2_with fail
 refine (cut_any s _ hs).mono ?_
 rintro e w1 ⟨rfl, n, rfl⟩
 go_wp2_with fail
 refine (kindOf_any (cutA s) _ ((HW.out.alloc _).drewN n)).mono ?_
 rintro e w2 ⟨rfl, rfl⟩
 go_wp2_with fail
 refine (cut_any (cutB s) _ hs2).mono ?_
 rintro e w3 ⟨rfl, m, rfl⟩
 go_wp2
 refine bodyPost_ret (v := .tuple #[.agg #[.int .i64 (kindN (cutA s)), .string (cutA (cutB s)), .string (cutB (cutB s))], .int .i64 0]) (by simp [results, Tryz.results117, go_sem]) rfl ⟨rfl, ?_⟩
 repeat' (first | exact Below.refl _ _ | assumption | with_reducible refine below_drewN ?_ _ | with_reducible refine Below.drew ?_ | with_reducible refine Below.setCell ?_ ?_ _ | with_reducible refine Below.alloc ?_ ?_ _ | (simp; done) | (simp; omega))
set_option maxHeartbeats 400000 in
theorem split_c (s : ByteArray) (w : World) (hs : s.size ≤ maxLen) (hW : Words w) (h : kindN (cutA s) ≠ 0) (h1 : cutF s = true) (h2 : (cutA (cutB s)).toList.isEmpty = false) (h3 : cutF (cutB s) = false) :
  Calls Tryz.prog 117 #[.string s] w fun e w' => e = .returned (.tuple #[.agg #[.int .i64 (kindN (cutA s)), .string (cutA (cutB s)), .string (cutB (cutB s))], .int .i64 0]) ∧ Below w.heap.size w w' := by
 have HW := hD hW
 have hk0 : ((kindN (cutA s) : Int) == 0) = false := beq_eq_false_iff_ne.2 (by omega)
 have hs2 : (cutB s).size ≤ maxLen := by rw [cutB_size]; omega
 clear hW h
 go_enter Tryz.func117, Tryz.ntmps117
 go_wp2_with fail
 refine (cut_any s _ hs).mono ?_
 rintro e w1 ⟨rfl, n, rfl⟩
 go_wp2_with fail
 refine (kindOf_any (cutA s) _ ((HW.out.alloc _).drewN n)).mono ?_
 rintro e w2 ⟨rfl, rfl⟩
 go_wp2_with fail
 refine (cut_any (cutB s) _ hs2).mono ?_
 rintro e w3 ⟨rfl, m, rfl⟩
 go_wp2
 refine bodyPost_ret (v := .tuple #[.agg #[.int .i64 (kindN (cutA s)), .string (cutA (cutB s)), .string (cutB (cutB s))], .int .i64 0]) (by simp [results, Tryz.results117, go_sem]) rfl ⟨rfl, ?_⟩
 repeat' (first | exact Below.refl _ _ | assumption | with_reducible refine below_drewN ?_ _ | with_reducible refine Below.drew ?_ | with_reducible refine Below.setCell ?_ ?_ _ | with_reducible refine Below.alloc ?_ ?_ _ | (simp; done) | (simp; omega))
set_option maxHeartbeats 400000 in
theorem split_d (s : ByteArray) (w : World) (hs : s.size ≤ maxLen) (hW : Words w) (h : kindN (cutA s) ≠ 0) (h1 : cutF s = true) (h2 : (cutA (cutB s)).toList.isEmpty = false) (h3 : cutF (cutB s) = true) (h4 : (cutB (cutB s)).toList.isEmpty = true) :
  Calls Tryz.prog 117 #[.string s] w fun e w' => e = .returned (.tuple #[.agg #[.int .i64 0, .string ⟨#[]⟩, .string ⟨#[]⟩], .int .i64 4]) ∧ Below w.heap.size w w' := by
 have HW := hD hW
 have hk0 : ((kindN (cutA s) : Int) == 0) = false := beq_eq_false_iff_ne.2 (by omega)
 have hs2 : (cutB s).size ≤ maxLen := by rw [cutB_size]; omega
 clear hW h
 go_enter Tryz.func117, Tryz.ntmps117
 go_wp2_with fail
 refine (cut_any s _ hs).mono ?_
 rintro e w1 ⟨rfl, n, rfl⟩
 go_wp2_with fail
 refine (kindOf_any (cutA s) _ ((HW.out.alloc _).drewN n)).mono ?_
 rintro e w2 ⟨rfl, rfl⟩
 go_wp2_with fail
 refine (cut_any (cutB s) _ hs2).mono ?_
 rintro e w3 ⟨rfl, m, rfl⟩
 go_wp2
 refine bodyPost_ret (v := .tuple #[.agg #[.int .i64 0, .string ⟨#[]⟩, .string ⟨#[]⟩], .int .i64 4]) (by simp [results, Tryz.results117, go_sem]) rfl ⟨rfl, ?_⟩
 repeat' (first | exact Below.refl _ _ | assumption | with_reducible refine below_drewN ?_ _ | with_reducible refine Below.drew ?_ | with_reducible refine Below.setCell ?_ ?_ _ | with_reducible refine Below.alloc ?_ ?_ _ | (simp; done) | (simp; omega))
set_option maxHeartbeats 400000 in
theorem split_e (s : ByteArray) (w : World) (hs : s.size ≤ maxLen) (hW : Words w) (h : kindN (cutA s) ≠ 0) (h1 : cutF s = true) (h2 : (cutA (cutB s)).toList.isEmpty = false) (h3 : cutF (cutB s) = true) (h4 : (cutB (cutB s)).toList.isEmpty = false) :
  Calls Tryz.prog 117 #[.string s] w fun e w' => e = .returned (.tuple #[.agg #[.int .i64 (kindN (cutA s)), .string (cutA (cutB s)), .string (cutB (cutB s))], .int .i64 0]) ∧ Below w.heap.size w w' := by
 have HW := hD hW
 have hk0 : ((kindN (cutA s) : Int) == 0) = false := beq_eq_false_iff_ne.2 (by omega)
 have hs2 : (cutB s).size ≤ maxLen := by rw [cutB_size]; omega
 clear hW h
 go_enter Tryz.func117, Tryz.ntmps117
 go_wp2_with fail
 refine (cut_any s _ hs).mono ?_
 rintro e w1 ⟨rfl, n, rfl⟩
 go_wp2_with fail
 refine (kindOf_any (cutA s) _ ((HW.out.alloc _).drewN n)).mono ?_
 rintro e w2 ⟨rfl, rfl⟩
 go_wp2_with fail
 refine (cut_any (cutB s) _ hs2).mono ?_
 rintro e w3 ⟨rfl, m, rfl⟩
 go_wp2
 refine bodyPost_ret (v := .tuple #[.agg #[.int .i64 (kindN (cutA s)), .string (cutA (cutB s)), .string (cutB (cutB s))], .int .i64 0]) (by simp [results, Tryz.results117, go_sem]) rfl ⟨rfl, ?_⟩
 repeat' (first | exact Below.refl _ _ | assumption | with_reducible refine below_drewN ?_ _ | with_reducible refine Below.drew ?_ | with_reducible refine Below.setCell ?_ ?_ _ | with_reducible refine Below.alloc ?_ ?_ _ | (simp; done) | (simp; omega))
theorem split_ok (s : ByteArray) (w : World) (hs : s.size ≤ maxLen) (hW : Words w) (h : splitE s = 0) :
  Calls Tryz.prog 117 #[.string s] w fun e w' => e = .returned (.tuple #[.agg #[.int .i64 (kindN (cutA s)), .string (cutA (cutB s)), .string (cutB (cutB s))], .int .i64 0]) ∧ Below w.heap.size w w' := by
 obtain ⟨h0, hb⟩ := splitE_ok h
 unfold splitBad at hb
 cases h1 : cutF s
 ·exact split_b s w hs hW h0 h1 (cutF_none h1)
 ·rw [h1] at hb
  cases h2 : (cutA (cutB s)).toList.isEmpty
  ·rw [h2] at hb
   cases h3 : cutF (cutB s)
   ·exact split_c s w hs hW h0 h1 h2 h3
   ·rw [h3] at hb
    cases h4 : (cutB (cutB s)).toList.isEmpty
    ·exact split_e s w hs hW h0 h1 h2 h3 h4
    ·rw [h4] at hb; simp at hb
  ·rw [h2] at hb; simp at hb
theorem split_no (s : ByteArray) (w : World) (hs : s.size ≤ maxLen) (hW : Words w) (h : splitE s ≠ 0) :
  Calls Tryz.prog 117 #[.string s] w fun e w' => e = .returned (.tuple #[.agg #[.int .i64 0, .string ⟨#[]⟩, .string ⟨#[]⟩], .int .i64 (splitE s)]) ∧ Below w.heap.size w w' := by
 by_cases h0 : kindN (cutA s) = 0
 ·rw [splitE_kind h0]; exact split_kind s w hs hW h0
 ·have hb := splitE_bad h0 h
  rw [splitE_form h0 hb]
  unfold splitBad at hb
  cases h1 : cutF s
  ·rw [h1, cutF_none h1] at hb; simp at hb
  ·rw [h1] at hb
   cases h2 : (cutA (cutB s)).toList.isEmpty
   ·rw [h2] at hb
    cases h3 : cutF (cutB s)
    ·rw [h3] at hb; simp at hb
    ·rw [h3] at hb
     cases h4 : (cutB (cutB s)).toList.isEmpty
     ·rw [h4] at hb; simp at hb
     ·exact split_d s w hs hW h0 h1 h2 h3 h4
   ·exact split_a s w hs hW h0 h1 h2
end Go.Proofs.YtpbaobmegomfpabGreatDoor
namespace Go.Proofs.YtpbaobmegomfpabGreatDoor
open Go.RowKit
theorem cell_new (w : World) (cs : Array Value) (t : TypeId) (i : Nat) (h : i < cs.size) : (w.alloc (.cells cs t)).cell? ⟨w.heap.size, i, none⟩ = some cs[i] := by
 rw [World.cell?_alloc_at _ _ _ _ rfl, Array.getElem?_eq_getElem h]
set_option maxHeartbeats 400000 in
theorem plainValueFits_any (k : Int) (key v : ByteArray) (w : World) (hv : v.size ≤ maxLen) :
  Calls Tryz.prog 108 #[.agg #[.int .i64 k, .string key, .string v]] w fun e w' => e = .returned (.bool (plainV k v)) ∧ Below w.heap.size w w' := by
 by_cases h : k = 9 ∨ k = 10
 ·rw [plainV_yes h]
  rcases h with rfl | rfl
  all_goals
   go_enter Tryz.func108, Tryz.ntmps108
   go_wp2_with fail
   refine (isValue_any v _ hv).mono ?_
   rintro e w1 ⟨rfl, hb⟩
   go_wp2
   go_ret
   exact ⟨rfl, bel_trans ((Below.refl _ _).alloc (nL _) _) hb⟩
 ·rw [plainV_no h]
  have h9 : (k == 9) = false := beq_eq_false_iff_ne.2 (by omega)
  have h10 : (k == 10) = false := beq_eq_false_iff_ne.2 (by omega)
  clear h
  go_enter Tryz.func108, Tryz.ntmps108
  go_wp2
  go_ret
  exact ⟨rfl, (Below.refl _ _).alloc (nL _) _⟩
set_option maxHeartbeats 1000000 in
theorem keyFits_any (k : Int) (key v : ByteArray) (w : World) (hk : key.size ≤ maxLen) :
  Calls Tryz.prog 84 #[.agg #[.int .i64 k, .string key, .string v]] w fun e w' => e = .returned (.bool (keyB k key)) ∧ Below w.heap.size w w' := by
 by_cases h : 6 ≤ k ∧ k ≤ 11
 ·rw [keyB_yes h]
  obtain rfl | rfl | rfl | rfl | rfl | rfl : k = 6 ∨ k = 7 ∨ k = 8 ∨ k = 9 ∨ k = 10 ∨ k = 11 := by omega
  all_goals
   clear h
   go_enter Tryz.func84, Tryz.ntmps84
   go_wp2_with fail
   refine (name_any key _ hk).mono ?_
   rintro e w1 ⟨rfl, hb⟩
   go_wp2
   go_ret
   exact ⟨rfl, bel_trans ((Below.refl _ _).alloc (nL _) _) hb⟩
 ·rw [keyB_no h]
  have h6 : (k == 6) = false := beq_eq_false_iff_ne.2 (by omega)
  have h7 : (k == 7) = false := beq_eq_false_iff_ne.2 (by omega)
  have h8 : (k == 8) = false := beq_eq_false_iff_ne.2 (by omega)
  have h9 : (k == 9) = false := beq_eq_false_iff_ne.2 (by omega)
  have h10 : (k == 10) = false := beq_eq_false_iff_ne.2 (by omega)
  have h11 : (k == 11) = false := beq_eq_false_iff_ne.2 (by omega)
  clear h
  go_enter Tryz.func84, Tryz.ntmps84
  go_wp2
  go_ret
  exact ⟨rfl, (Below.refl _ _).alloc (nL _) _⟩
set_option maxHeartbeats 1000000 in
theorem preparable_any (t : ByteArray) (w : World) (ht : t.size ≤ maxLen) (hW : Words w) :
  Calls Tryz.prog 107 #[.string t] w fun e w' => e = .returned (.bool (prepB t)) ∧ Below w.heap.size w w' := by
 have HW := hD hW
 clear hW
 by_cases h : splitE t = 0
 ·by_cases hk : kindN (cutA t) = 6 ∨ kindN (cutA t) = 7 ∨ kindN (cutA t) = 10
  ·rw [prepB_rest h hk]
   have H := hD h
   clear h
   have hs1 : (cutA (cutB t)).size ≤ maxLen := by rw [cutA_size]; have := cutI_le (cutB t); have := cutB_size t; omega
   have hs2 : (cutB (cutB t)).size ≤ maxLen := by rw [cutB_size]; have := cutB_size t; omega
   have hsp := hD (split_ok t w ht HW.out H.out)
   generalize cutA (cutB t) = key at *
   generalize cutB (cutB t) = v at *
   generalize kindN (cutA t) = k at *
   cases hn : bndB 97 122 8 key
   ·have HN := hD hn
    clear hn
    rcases hk with rfl | rfl | rfl
    all_goals
     go_enter Tryz.func107, Tryz.ntmps107
     go_wp2_with fail
     refine hsp.out.mono ?_
     rintro e w1 ⟨rfl, hb⟩
     go_wp2_with fail
     refine (name_any key _ hs1).mono ?_
     rw [HN.out]
     rintro e w2 ⟨rfl, hb2⟩
     go_wp2
     go_ret
     exact ⟨by rw [Bool.false_and]; rfl, bel_trans (hb.alloc hb.size _) hb2⟩
   ·have HN := hD hn
    clear hn
    rcases hk with rfl | rfl | rfl
    all_goals
     go_enter Tryz.func107, Tryz.ntmps107
     go_wp2_with fail
     refine hsp.out.mono ?_
     rintro e w1 ⟨rfl, hb⟩
     go_wp2_with fail
     refine (name_any key _ hs1).mono ?_
     rw [HN.out]
     rintro e w2 ⟨rfl, hb2⟩
     have c0 := (hb2.cell (p := ⟨w1.heap.size, 0, none⟩) (by simp)).trans (cell_new w1 _ _ 0 (by simp))
     have c1 := (hb2.cell (p := ⟨w1.heap.size, 1, none⟩) (by simp)).trans (cell_new w1 _ _ 1 (by simp))
     have c2 := (hb2.cell (p := ⟨w1.heap.size, 2, none⟩) (by simp)).trans (cell_new w1 _ _ 2 (by simp))
     simp only [gTA, gCZ, gCS] at c0 c1 c2
     go_wp2_with fail
     refine (plainValueFits_any _ key v _ hs2).mono ?_
     rintro e w3 ⟨rfl, hb3⟩
     go_wp2
     go_ret
     exact ⟨by rw [Bool.true_and]; rfl, bel_trans (bel_trans (hb.alloc hb.size _) hb2) hb3⟩
  ·rw [prepB_kind hk]
   have H := hD h
   clear h
   have hsp := hD (split_ok t w ht HW.out H.out)
   generalize cutA (cutB t) = key at *
   generalize cutB (cutB t) = v at *
   generalize kindN (cutA t) = k at *
   have h6 : ((k : Int) == 6) = false := beq_eq_false_iff_ne.2 (by omega)
   have h7 : ((k : Int) == 7) = false := beq_eq_false_iff_ne.2 (by omega)
   have h10 : ((k : Int) == 10) = false := beq_eq_false_iff_ne.2 (by omega)
   clear hk
   go_enter Tryz.func107, Tryz.ntmps107
   go_wp2_with fail
   refine hsp.out.mono ?_
   rintro e w1 ⟨rfl, hb⟩
   go_wp2
   go_ret
   exact ⟨rfl, hb.alloc hb.size _⟩
 ·rw [prepB_split h]
  have hsp := hD (split_no t w ht HW.out h)
  have hne : ((splitE t) != 0) = true := bne_iff_ne.2 h
  generalize splitE t = e0 at *
  clear h
  go_enter Tryz.func107, Tryz.ntmps107
  go_wp2_with fail
  refine hsp.out.mono ?_
  rintro e w1 ⟨rfl, hb⟩
  go_wp2
  go_ret
  exact ⟨rfl, hb.alloc hb.size _⟩
set_option maxHeartbeats 400000 in
theorem valueFits_any (k : Int) (key v : ByteArray) (w : World) (hv : v.size ≤ maxLen) (hW : Words w) :
  Calls Tryz.prog 85 #[.agg #[.int .i64 k, .string key, .string v]] w fun e w' => e = .returned (.bool (valueB k v)) ∧ Below w.heap.size w w' := by
 have HW := hD hW
 clear hW
 by_cases h : k = 11
 ·subst h
  go_enter Tryz.func85, Tryz.ntmps85
  go_wp2_with fail
  refine (preparable_any v _ hv (HW.out.alloc _)).mono ?_
  rintro e w1 ⟨rfl, hb⟩
  go_wp2
  go_ret
  exact ⟨rfl, bel_trans ((Below.refl _ _).alloc (nL _) _) hb⟩
 ·have hvb := hD (show valueB k v = plainV k v by unfold valueB; rw [if_neg h])
  have h11 : (k == 11) = false := beq_eq_false_iff_ne.2 h
  clear h
  go_enter Tryz.func85, Tryz.ntmps85
  go_wp2_with fail
  refine (plainValueFits_any k key v _ hv).mono ?_
  rintro e w1 ⟨rfl, hb⟩
  go_wp2
  go_ret
  exact ⟨by rw [hvb.out]; rfl, bel_trans ((Below.refl _ _).alloc (nL _) _) hb⟩
set_option maxHeartbeats 1000000 in
theorem check_any (k : Int) (key v : ByteArray) (w : World) (hk : key.size ≤ maxLen) (hv : v.size ≤ maxLen) (hW : Words w) :
  Calls Tryz.prog 58 #[.agg #[.int .i64 k, .string key, .string v]] w fun e w' => e = .returned (.int .i64 (checkE k key v)) ∧ Below w.heap.size w w' := by
 have HW := hD hW
 clear hW
 by_cases h : k < 1 ∨ 11 < k
 ·rw [checkE_kind h]
  rcases h with h | h
  ·go_enter Tryz.func58, Tryz.ntmps58
   go_wp2
   go_ret
   exact ⟨rfl, (Below.refl _ _).alloc (nL _) _⟩
  ·have h1 : decide (k < 1) = false := decide_eq_false (by omega)
   go_enter Tryz.func58, Tryz.ntmps58
   go_wp2
   go_ret
   exact ⟨rfl, (Below.refl _ _).alloc (nL _) _⟩
 ·have d1 : decide (k < 1) = false := decide_eq_false (by omega)
  have d2 : decide (11 < k) = false := decide_eq_false (by omega)
  cases h1 : keyB k key
  ·rw [checkE_key h h1]
   have H1 := hD h1
   clear h h1
   go_enter Tryz.func58, Tryz.ntmps58
   go_wp2_with fail
   refine (keyFits_any k key v _ hk).mono ?_
   rw [H1.out]
   rintro e w1 ⟨rfl, hb⟩
   go_wp2
   go_ret
   exact ⟨rfl, bel_trans ((Below.refl _ _).alloc (nL _) _) hb⟩
  ·have H1 := hD h1
   cases h2 : valueB k v
   all_goals
    first | rw [checkE_value h h2] | rw [checkE_ok h h1 h2]
    have H2 := hD h2
    clear h2 h h1
    go_enter Tryz.func58, Tryz.ntmps58
    go_wp2_with fail
    refine (keyFits_any k key v _ hk).mono ?_
    rw [H1.out]
    rintro e w1 ⟨rfl, hb⟩
    have c0 := (hb.cell (p := ⟨w.heap.size, 0, none⟩) (by simp)).trans (cell_new w _ _ 0 (by simp))
    have c1 := (hb.cell (p := ⟨w.heap.size, 1, none⟩) (by simp)).trans (cell_new w _ _ 1 (by simp))
    have c2 := (hb.cell (p := ⟨w.heap.size, 2, none⟩) (by simp)).trans (cell_new w _ _ 2 (by simp))
    simp only [gTA, gCZ, gCS] at c0 c1 c2
    have hW1 := hD ((HW.out.alloc _).below hb)
    go_wp2_with fail
    refine (valueFits_any k key v _ hv hW1.out).mono ?_
    rw [H2.out]
    rintro e w2 ⟨rfl, hb2⟩
    go_wp2
    go_ret
    exact ⟨rfl, bel_trans (bel_trans ((Below.refl _ _).alloc (nL _) _) hb) hb2⟩
end Go.Proofs.YtpbaobmegomfpabGreatDoor
namespace Go.Proofs.YtpbaobmegomfpabGreatDoor
open Go.RowKit
structure Stm (w : World) (b : Nat) (k : Int) (x y : ByteArray) : Prop where
 lt : b < w.heap.size
 c0 : w.cell? ⟨b, 0, none⟩ = some (.int .i64 k)
 c1 : w.cell? ⟨b, 1, none⟩ = some (.string x)
 c2 : w.cell? ⟨b, 2, none⟩ = some (.string y)
 fz : ∀ i, w.frozen? ⟨b, i, none⟩ = false
theorem Stm.below {w w' : World} {b : Nat} {k : Int} {x y : ByteArray} (h : Stm w b k x y) (hb : Below w.heap.size w w') : Stm w' b k x y :=
 ⟨Nat.lt_of_lt_of_le h.lt hb.size, (hb.cell (p := ⟨b, 0, none⟩) h.lt).trans h.c0, (hb.cell (p := ⟨b, 1, none⟩) h.lt).trans h.c1, (hb.cell (p := ⟨b, 2, none⟩) h.lt).trans h.c2,
  fun i => (hb.frozen (p := ⟨b, i, none⟩) h.lt).trans (h.fz i)⟩
theorem Stm.other {w : World} {b b' i : Nat} {k : Int} {x y : ByteArray} {u : Value} (h : Stm w b k x y) (_ : b ≠ b') : Stm (w.setCell ⟨b', i, none⟩ u) b k x y := by
 obtain ⟨lt, c0, c1, c2, fz⟩ := h
 refine ⟨by simpa using lt, ?_, ?_, ?_, fun i => ?_⟩
 ·simp [go_sem, c0]
 ·simp [go_sem, c1]
 ·simp [go_sem, c2]
 ·simp [go_sem, fz]
theorem Stm.new (w : World) (k : Int) (x y : ByteArray) (t : TypeId) : Stm (w.alloc (.cells #[.int .i64 k, .string x, .string y] t)) w.heap.size k x y := by
 refine ⟨by simp, ?_, ?_, ?_, fun i => ?_⟩
 ·rw [cell_new _ _ _ 0 (by simp)]; rfl
 ·rw [cell_new _ _ _ 1 (by simp)]; rfl
 ·rw [cell_new _ _ _ 2 (by simp)]; rfl
 ·simp [go_sem]
end Go.Proofs.YtpbaobmegomfpabGreatDoor
namespace Go.Proofs.YtpbaobmegomfpabGreatDoor
open Go.RowKit
theorem cell_set3 {w : World} {b R i : Nat} {u x y z : Value} (h : w.cell? ⟨b, i, none⟩ = some u) (hne : b ≠ R) :
  (((w.setCell ⟨R, 0, none⟩ x).setCell ⟨R, 1, none⟩ y).setCell ⟨R, 2, none⟩ z).cell? ⟨b, i, none⟩ = some u := by
 simp [go_sem, h]
set_option maxHeartbeats 1000000 in
theorem read_ok (t : ByteArray) (w : World) (hW : Words w) (h : readE t = 0) :
  Calls Tryz.prog 96 #[.string t] w fun e w' => e = .returned (.tuple #[.agg #[.int .i64 (kindN (cutA t)), .string (cutA (cutB t)), .string (cutB (cutB t))], .int .i64 0]) ∧ Below w.heap.size w w' := by
 have HW := hD hW
 clear hW
 have hl : ¬ 60 < t.size := fun hl => by rw [readE_long hl] at h; cases h
 have hsp : splitE t = 0 := Classical.byContradiction fun hs => by rw [readE_split hl hs] at h; exact hs h
 have hck := readE_check hl hsp
 rw [h] at hck
 have hd : decide (60 < (t.size : Int)) = false := decide_eq_false (by omega)
 have hg := good_of hck.symm
 have k8 := hg.key8
 have v60 := hg.v60
 have HSP := hD (split_ok t (w.alloc (.cells #[.int .i64 0, .string ⟨#[]⟩, .string ⟨#[]⟩] 41)) (by unfold maxLen; omega) (HW.out.alloc _) hsp)
 have HCK := hD hck
 clear hck hsp h hg
 generalize kindN (cutA t) = k at *
 generalize cutA (cutB t) = key at *
 generalize cutB (cutB t) = v at *
 go_enter Tryz.func96, Tryz.ntmps96
 go_wp2_with fail
 refine HSP.out.mono ?_
 rintro e w1 ⟨rfl, hb⟩
 have R := (Stm.new w 0 ⟨#[]⟩ ⟨#[]⟩ 41).below hb
 have HR := hD R
 clear R
 go_wp2_with fail
 have hc := check_any k key v (w1.alloc (.cells #[.int .i64 k, .string key, .string v] 41)) (by unfold maxLen; omega) (by unfold maxLen; omega) (((HW.out.alloc _).below hb).alloc _)
 rw [← HCK.out] at hc
 refine hc.mono ?_
 clear hc
 rintro e w2 ⟨rfl, hb2⟩
 have S2 := (Stm.new w1 k key v 41).below hb2
 have R2 := (HR.out.below ((Below.refl _ _).alloc (nL _) (.cells #[.int .i64 k, .string key, .string v] 41))).below hb2
 obtain ⟨sl, s0, s1, s2, sf⟩ := S2
 obtain ⟨rl, r0, r1, r2, rf⟩ := R2
 have b2 : Below w.heap.size w w2 := bel_trans ((bel_trans ((Below.refl _ _).alloc (nL _) _) hb).alloc (bel_trans ((Below.refl _ _).alloc (nL _) _) hb).size _) hb2
 have hne : w1.heap.size ≠ w.heap.size := by have := HR.out.lt; omega
 go_wp2
 go_region_held3 (fun wx => wx.cell? ⟨w1.heap.size, 0, none⟩ = some (.int .i64 k) ∧ wx.cell? ⟨w1.heap.size, 1, none⟩ = some (.string key) ∧ wx.cell? ⟨w1.heap.size, 2, none⟩ = some (.string v))
  (first | exact ⟨p0, p1, p2⟩ | exact ⟨s0, s1, s2⟩ | exact ⟨cell_set3 p0 hne, cell_set3 p1 hne, cell_set3 p2 hne⟩)
  (first
   | (
    go_at_call_of 46 (Value.string key)
    refine (clone_any key _ (by omega)).mono ?_
    rintro e w3 ⟨rfl, hy⟩
    have q0 : w3.cell? ⟨w.heap.size, 0, none⟩ = some (.int .i64 0) := by first | exact (hy.cell (p := ⟨w.heap.size, 0, none⟩) rl).trans r0 | exact (hy.cell (p := ⟨w.heap.size, 0, none⟩) ql).trans q0
    have q1 : w3.cell? ⟨w.heap.size, 1, none⟩ = some (.string ⟨#[]⟩) := by first | exact (hy.cell (p := ⟨w.heap.size, 1, none⟩) rl).trans r1 | exact (hy.cell (p := ⟨w.heap.size, 1, none⟩) ql).trans q1
    have q2 : w3.cell? ⟨w.heap.size, 2, none⟩ = some (.string ⟨#[]⟩) := by first | exact (hy.cell (p := ⟨w.heap.size, 2, none⟩) rl).trans r2 | exact (hy.cell (p := ⟨w.heap.size, 2, none⟩) ql).trans q2
    have qf : ∀ i, w3.frozen? ⟨w.heap.size, i, none⟩ = false := by first | exact fun i => (hy.frozen (p := ⟨w.heap.size, i, none⟩) rl).trans (rf i) | exact fun i => (hy.frozen (p := ⟨w.heap.size, i, none⟩) ql).trans (qf i)
    have p0 : w3.cell? ⟨w1.heap.size, 0, none⟩ = some (.int .i64 k) := by first | exact (hy.cell (p := ⟨w1.heap.size, 0, none⟩) sl).trans s0 | exact (hy.cell (p := ⟨w1.heap.size, 0, none⟩) pl).trans p0
    have p1 : w3.cell? ⟨w1.heap.size, 1, none⟩ = some (.string key) := by first | exact (hy.cell (p := ⟨w1.heap.size, 1, none⟩) sl).trans s1 | exact (hy.cell (p := ⟨w1.heap.size, 1, none⟩) pl).trans p1
    have p2 : w3.cell? ⟨w1.heap.size, 2, none⟩ = some (.string v) := by first | exact (hy.cell (p := ⟨w1.heap.size, 2, none⟩) sl).trans s2 | exact (hy.cell (p := ⟨w1.heap.size, 2, none⟩) pl).trans p2
    have pb : Below w.heap.size w w3 := by first | exact b2.trans ⟨hy.os, hy.tape, hy.output, hy.size, fun i hi => hy.block i (by first | exact Nat.lt_trans hi rl | exact Nat.lt_of_lt_of_le hi b2.size)⟩ | exact pb.trans (hy.mono pb.size)
    have ql : w.heap.size < w3.heap.size := by first | exact Nat.lt_of_lt_of_le rl hy.size | exact Nat.lt_of_lt_of_le ql hy.size
    have pl : w1.heap.size < w3.heap.size := by first | exact Nat.lt_of_lt_of_le sl hy.size | exact Nat.lt_of_lt_of_le pl hy.size)
   | (
    go_at_call_of 46 (Value.string v)
    refine (clone_any v _ (by omega)).mono ?_
    rintro e w3 ⟨rfl, hy⟩
    have q0 : w3.cell? ⟨w.heap.size, 0, none⟩ = some (.int .i64 0) := by first | exact (hy.cell (p := ⟨w.heap.size, 0, none⟩) rl).trans r0 | exact (hy.cell (p := ⟨w.heap.size, 0, none⟩) ql).trans q0
    have q1 : w3.cell? ⟨w.heap.size, 1, none⟩ = some (.string ⟨#[]⟩) := by first | exact (hy.cell (p := ⟨w.heap.size, 1, none⟩) rl).trans r1 | exact (hy.cell (p := ⟨w.heap.size, 1, none⟩) ql).trans q1
    have q2 : w3.cell? ⟨w.heap.size, 2, none⟩ = some (.string ⟨#[]⟩) := by first | exact (hy.cell (p := ⟨w.heap.size, 2, none⟩) rl).trans r2 | exact (hy.cell (p := ⟨w.heap.size, 2, none⟩) ql).trans q2
    have qf : ∀ i, w3.frozen? ⟨w.heap.size, i, none⟩ = false := by first | exact fun i => (hy.frozen (p := ⟨w.heap.size, i, none⟩) rl).trans (rf i) | exact fun i => (hy.frozen (p := ⟨w.heap.size, i, none⟩) ql).trans (qf i)
    have p0 : w3.cell? ⟨w1.heap.size, 0, none⟩ = some (.int .i64 k) := by first | exact (hy.cell (p := ⟨w1.heap.size, 0, none⟩) sl).trans s0 | exact (hy.cell (p := ⟨w1.heap.size, 0, none⟩) pl).trans p0
    have p1 : w3.cell? ⟨w1.heap.size, 1, none⟩ = some (.string key) := by first | exact (hy.cell (p := ⟨w1.heap.size, 1, none⟩) sl).trans s1 | exact (hy.cell (p := ⟨w1.heap.size, 1, none⟩) pl).trans p1
    have p2 : w3.cell? ⟨w1.heap.size, 2, none⟩ = some (.string v) := by first | exact (hy.cell (p := ⟨w1.heap.size, 2, none⟩) sl).trans s2 | exact (hy.cell (p := ⟨w1.heap.size, 2, none⟩) pl).trans p2
    have pb : Below w.heap.size w w3 := by first | exact b2.trans ⟨hy.os, hy.tape, hy.output, hy.size, fun i hi => hy.block i (by first | exact Nat.lt_trans hi rl | exact Nat.lt_of_lt_of_le hi b2.size)⟩ | exact pb.trans (hy.mono pb.size)
    have ql : w.heap.size < w3.heap.size := by first | exact Nat.lt_of_lt_of_le rl hy.size | exact Nat.lt_of_lt_of_le ql hy.size
    have pl : w1.heap.size < w3.heap.size := by first | exact Nat.lt_of_lt_of_le sl hy.size | exact Nat.lt_of_lt_of_le pl hy.size))
 all_goals go_wp2
 all_goals refine bodyPost_ret (v := .tuple #[.agg #[.int .i64 k, .string key, .string v], .int .i64 0]) (by simp [results, Tryz.results96, go_sem, q0, q1, q2]) rfl ⟨rfl, ?_⟩
 all_goals repeat' (first | exact Below.refl _ _ | assumption | with_reducible refine below_drewN ?_ _ | with_reducible refine Below.drew ?_ | with_reducible refine Below.setCell ?_ ?_ _ | with_reducible refine Below.alloc ?_ ?_ _ | (simp; done) | (simp; omega))
theorem read_long (t : ByteArray) (w : World) (h : 60 < t.size) :
  Calls Tryz.prog 96 #[.string t] w fun e w' => e = .returned (.tuple #[.agg #[.int .i64 0, .string ⟨#[]⟩, .string ⟨#[]⟩], .int .i64 1]) ∧ Below w.heap.size w w' := by
 have hd : decide (60 < (t.size : Int)) = true := decide_eq_true (by omega)
 go_enter Tryz.func96, Tryz.ntmps96
 go_wp2
 refine bodyPost_ret (v := .tuple #[.agg #[.int .i64 0, .string ⟨#[]⟩, .string ⟨#[]⟩], .int .i64 1]) (by simp [results, Tryz.results96, go_sem]) rfl ⟨rfl, ?_⟩
 repeat' (first | exact Below.refl _ _ | assumption | with_reducible refine below_drewN ?_ _ | with_reducible refine Below.drew ?_ | with_reducible refine Below.setCell ?_ ?_ _ | with_reducible refine Below.alloc ?_ ?_ _ | (simp; done) | (simp; omega))
set_option maxHeartbeats 400000 in
theorem read_split (t : ByteArray) (w : World) (hW : Words w) (hl : ¬ 60 < t.size) (h : splitE t ≠ 0) :
  Calls Tryz.prog 96 #[.string t] w fun e w' => e = .returned (.tuple #[.agg #[.int .i64 0, .string ⟨#[]⟩, .string ⟨#[]⟩], .int .i64 (splitE t)]) ∧ Below w.heap.size w w' := by
 have hd : decide (60 < (t.size : Int)) = false := decide_eq_false (by omega)
 have HSP := hD (split_no t (w.alloc (.cells #[.int .i64 0, .string ⟨#[]⟩, .string ⟨#[]⟩] 41)) (by unfold maxLen; omega) (hW.alloc _) h)
 have h1 : (splitE t == 0) = false := beq_eq_false_iff_ne.2 h
 have h2 : (splitE t != 0) = true := bne_iff_ne.2 h
 generalize splitE t = c at *
 clear hW h
 go_enter Tryz.func96, Tryz.ntmps96
 go_wp2_with fail
 refine HSP.out.mono ?_
 rintro e w1 ⟨rfl, hb⟩
 obtain ⟨rl, r0, r1, r2, rf⟩ := (Stm.new w 0 ⟨#[]⟩ ⟨#[]⟩ 41).below hb
 have bel := bel_trans ((Below.refl _ _).alloc (nL _) _) hb
 go_wp2
 refine bodyPost_ret (v := .tuple #[.agg #[.int .i64 0, .string ⟨#[]⟩, .string ⟨#[]⟩], .int .i64 c]) (by simp [results, Tryz.results96, go_sem, r0, r1, r2, rl]) rfl ⟨rfl, ?_⟩
 repeat' (first | exact Below.refl _ _ | assumption | with_reducible refine below_drewN ?_ _ | with_reducible refine Below.drew ?_ | with_reducible refine Below.setCell ?_ ?_ _ | with_reducible refine Below.alloc ?_ ?_ _ | (simp; done) | (simp; omega))
set_option maxHeartbeats 400000 in
theorem read_check (t : ByteArray) (w : World) (hW : Words w) (hl : ¬ 60 < t.size) (h : splitE t = 0) (hc : checkE (kindN (cutA t)) (cutA (cutB t)) (cutB (cutB t)) ≠ 0) :
  Calls Tryz.prog 96 #[.string t] w fun e w' => e = .returned (.tuple #[.agg #[.int .i64 0, .string ⟨#[]⟩, .string ⟨#[]⟩], .int .i64 (checkE (kindN (cutA t)) (cutA (cutB t)) (cutB (cutB t)))]) ∧ Below w.heap.size w w' := by
 have hd : decide (60 < (t.size : Int)) = false := decide_eq_false (by omega)
 have HW := hD hW
 have HSP := hD (split_ok t (w.alloc (.cells #[.int .i64 0, .string ⟨#[]⟩, .string ⟨#[]⟩] 41)) (by unfold maxLen; omega) (hW.alloc _) h)
 have hk8 : (cutA (cutB t)).size ≤ maxLen := by rw [cutA_size]; have := cutI_le (cutB t); have := cutB_size t; unfold maxLen; omega
 have hv8 : (cutB (cutB t)).size ≤ maxLen := by rw [cutB_size]; have := cutB_size t; unfold maxLen; omega
 generalize kindN (cutA t) = k at *
 generalize cutA (cutB t) = key at *
 generalize cutB (cutB t) = v at *
 have h2 : (checkE k key v != 0) = true := bne_iff_ne.2 hc
 clear hW h hc
 go_enter Tryz.func96, Tryz.ntmps96
 go_wp2_with fail
 refine HSP.out.mono ?_
 rintro e w1 ⟨rfl, hb⟩
 have HR := hD ((Stm.new w 0 ⟨#[]⟩ ⟨#[]⟩ 41).below hb)
 go_wp2_with fail
 refine (check_any k key v (w1.alloc (.cells #[.int .i64 k, .string key, .string v] 41)) hk8 hv8 (((HW.out.alloc _).below hb).alloc _)).mono ?_
 rintro e w2 ⟨rfl, hb2⟩
 obtain ⟨rl, r0, r1, r2, rf⟩ := (HR.out.below ((Below.refl _ _).alloc (nL _) (.cells #[.int .i64 k, .string key, .string v] 41))).below hb2
 have bel : Below w.heap.size w w2 := bel_trans ((bel_trans ((Below.refl _ _).alloc (nL _) _) hb).alloc (bel_trans ((Below.refl _ _).alloc (nL _) _) hb).size _) hb2
 go_wp2
 refine bodyPost_ret (v := .tuple #[.agg #[.int .i64 0, .string ⟨#[]⟩, .string ⟨#[]⟩], .int .i64 (checkE k key v)]) (by simp [results, Tryz.results96, go_sem, r0, r1, r2]) rfl ⟨rfl, ?_⟩
 repeat' (first | exact Below.refl _ _ | assumption | with_reducible refine below_drewN ?_ _ | with_reducible refine Below.drew ?_ | with_reducible refine Below.setCell ?_ ?_ _ | with_reducible refine Below.alloc ?_ ?_ _ | (simp; done) | (simp; omega))
theorem read_no (t : ByteArray) (w : World) (hW : Words w) (h : readE t ≠ 0) :
  Calls Tryz.prog 96 #[.string t] w fun e w' => e = .returned (.tuple #[.agg #[.int .i64 0, .string ⟨#[]⟩, .string ⟨#[]⟩], .int .i64 (readE t)]) ∧ Below w.heap.size w w' := by
 by_cases hl : 60 < t.size
 ·rw [readE_long hl]; exact read_long t w hl
 ·by_cases hs : splitE t = 0
  ·rw [readE_check hl hs] at h ⊢; exact read_check t w hW hl hs h
  ·rw [readE_split hl hs]; exact read_split t w hW hl hs
end Go.Proofs.YtpbaobmegomfpabGreatDoor
namespace Go.Proofs.YtpbaobmegomfpabGreatDoor
open Go.RowKit
theorem prep_read {v : ByteArray} (h : prepB v = true) : readE v = 0 ∧ (1 ≤ kindN (cutA v) ∧ kindN (cutA v) ≤ 11 ∧ kindN (cutA v) ≠ 8) ∧ (cutA (cutB v)).size ≤ 8 ∧ (cutB (cutB v)).size ≤ 60 := by
 have h38 := prepB_38 h
 unfold prepB at h
 simp only [Bool.and_eq_true, decide_eq_true_eq] at h
 have a4 := bndB_size h.2.2.1
 have a5 := plainV_size h.2.2.2
 refine ⟨?_, by omega, a4.2, by omega⟩
 rw [readE_check (by omega) h.1]
 refine checkE_ok (by omega) ?_ ?_
 ·rw [keyB_yes (by omega)]; exact h.2.2.1
 ·unfold valueB; rw [if_neg (by omega)]; exact h.2.2.2
theorem prep_of {k v : ByteArray} (h : checkE 11 k v = 0) : prepB v = true := by
 cases e : prepB v
 ·exfalso
  rw [checkE_value (by omega) (by unfold valueB; rw [if_pos rfl]; exact e)] at h
  cases h
 ·rfl
set_option maxHeartbeats 2000000 in
theorem exec_none (X S gR cR : Nat) (G C : Nat → Nat → Nat) (W : Wd) (i : Nat) (key : ByteArray) (w : World) (h : OwnD w X S gR cR G C W) (hw : WorldOk W) (hi : i < W.ss.length) (hat : atL W.ss[i].prep key = none) :
  Calls Tryz.prog 69 #[.pointer (some ⟨X, 0, none⟩), .int .i64 i, .string key] w fun e w' => e = .returned (ansV 4 tNotPrep) ∧ Below w.heap.size w w' := by
 have hz := worldOk_sz hw
 have hXw := h.box.lt
 have hSw := h.blk.lt
 have x1 := h.box.cell (j := 1) (by simp)
 simp only [gCZ, gCS] at x1
 unfold slc at x1
 have hii : (i : Int) < (W.ss.length : Int) := by omega
 have p1 : w.cell? ⟨S, i * 5 + 2, none⟩ = some (.slice (some ⟨G i 1, 0, none⟩) W.ss[i].prep.length (C i 1)) := h.cs i 1 hi (by omega)
 have b0 : Below w.heap.size w ((w.alloc (.cells #[.int .i64 0, .string ⟨#[]⟩, .int .i64 0] 46)).alloc (.cells #[.slice (some ⟨G i 1, 0, none⟩) W.ss[i].prep.length (C i 1)] 27)) := ((Below.refl _ _).alloc (nL _) _).alloc (by simp) _
 have X0 : RowTo ((w.alloc (.cells #[.int .i64 0, .string ⟨#[]⟩, .int .i64 0] 46)).alloc (.cells #[.slice (some ⟨G i 1, 0, none⟩) W.ss[i].prep.length (C i 1)] 27)) w.heap.size 46 3 [.int .i64 0, .string ⟨#[]⟩, .int .i64 0] := (RowTo.whole w #[.int .i64 0, .string ⟨#[]⟩, .int .i64 0] 46).alloc _
 have HL := hD ((h.list hz hi (j := 1) (by omega)).step b0)
 have HRI := hD ((pairsB_rising (hw.sess i hi).prep).1)
 have hF : findA [W.ss[i].prep] key = none := by simp only [findA, hat]
 have HF := hD (show Calls Tryz.prog 68 #[.string key, .slice (some ⟨w.heap.size + 1, 0, none⟩) 1 1] ((w.alloc (.cells #[.int .i64 0, .string ⟨#[]⟩, .int .i64 0] 46)).alloc (.cells #[.slice (some ⟨G i 1, 0, none⟩) W.ss[i].prep.length (C i 1)] 27)) (fun e w' => e = .returned (.agg #[.int .i64 3, .string ⟨#[]⟩, .int .i64 0]) ∧ Below ((w.alloc (.cells #[.int .i64 0, .string ⟨#[]⟩, .int .i64 0] 46)).alloc (.cells #[.slice (some ⟨G i 1, 0, none⟩) W.ss[i].prep.length (C i 1)] 27)).heap.size ((w.alloc (.cells #[.int .i64 0, .string ⟨#[]⟩, .int .i64 0] 46)).alloc (.cells #[.slice (some ⟨G i 1, 0, none⟩) W.ss[i].prep.length (C i 1)] 27)) w') by
  have q := find_any key (w.heap.size + 1) [W.ss[i].prep] (fun _ => .slice (some ⟨G i 1, 0, none⟩) W.ss[i].prep.length (C i 1)) ((w.alloc (.cells #[.int .i64 0, .string ⟨#[]⟩, .int .i64 0] 46)).alloc (.cells #[.slice (some ⟨G i 1, 0, none⟩) W.ss[i].prep.length (C i 1)] 27)) (by simp) (by simp) (fun n hn => by
   obtain rfl : n = 0 := by simp at hn; omega
   exact ⟨by simp [go_sem], HL.out, HRI.out⟩)
  rw [hF] at q
  exact q)
 have hzs : ((w.alloc (.cells #[.int .i64 0, .string ⟨#[]⟩, .int .i64 0] 46)).alloc (.cells #[.slice (some ⟨G i 1, 0, none⟩) W.ss[i].prep.length (C i 1)] 27)).heap.size = w.heap.size + 1 + 1 := by simp
 have H := hD h
 have HZ := hD hz
 have HW := hD hw
 have B0 := hD b0
 have HX0 := hD X0
 have HZS := hD hzs
 have HAT := hD hat
 clear h hz hw b0 X0 hzs hF hat
 go_enter Tryz.func69, Tryz.ntmps69
 go_wp2_with fail
 refine HF.out.mono ?_
 rintro e w1 ⟨rfl, hb1⟩
 have hs1 := hb1.size
 rw [HZS.out] at hs1
 have X1 := HX0.out.below hb1 HX0.out.lt
 have B1 := hD (bel_add' B0.out hb1 B0.out.size)
 have HX1 := hD X1
 clear hb1 X1
 go_wp2_with fail
 refine (failure_any tNotPrep _).mono ?_
 rintro e w2 ⟨rfl, hb2⟩
 have B2 := hD (show Below w.heap.size w w2 from bel_add' ((B1.out).alloc (by omega) _) hb2 (by simp; omega))
 have X2 : RowTo w2 w.heap.size 46 3 [.int .i64 0, .string ⟨#[]⟩, .int .i64 0] := (HX1.out.alloc _).below hb2 (by simp; omega)
 have r0 := X2.cell (j := 0) (by simp)
 have r1 := X2.cell (j := 1) (by simp)
 have r2 := X2.cell (j := 2) (by simp)
 have s0 := X2.frozen 0
 have s1 := X2.frozen 1
 have s2 := X2.frozen 2
 simp only [gCZ, gCS] at r0 r1 r2
 clear hb2 X2
 unfold ansV
 go_wp2
 refine bodyPost_ret (v := .agg #[.int .i64 4, .string tNotPrep, .int .i64 0]) (by simp [results, Tryz.results69, go_sem, r0, r1, r2]) rfl ⟨rfl, ?_⟩
 exact ((B2.out.setCell (by simp) _).setCell (by simp) _).setCell (by simp) _
set_option maxHeartbeats 2000000 in
theorem exec_some (base X S gR cR : Nat) (G C : Nat → Nat → Nat) (W : Wd) (i : Nat) (key t : ByteArray) (w : World) (h : OwnD w X S gR cR G C W) (lo : LoD base X S gR G W.ss.length) (hw : WorldOk W) (hb : base ≤ w.heap.size) (hi : i < W.ss.length) (hW : Words w) (hat : atL W.ss[i].prep key = some t) :
  Calls Tryz.prog 69 #[.pointer (some ⟨X, 0, none⟩), .int .i64 i, .string key] w (ExPost w base X S gR G W.ss.length (did1 W i (kindN (cutA t)) (cutA (cutB t)) (cutB (cutB t)))) := by
 obtain ⟨hre, ⟨hk1, hk2, hk8⟩, hkz, hvz⟩ := prep_read (v := t) (prep_of (k := key) (v := t) ((pairsB_rising (hw.sess i hi).prep).2.2 _ (atL_mem hat)))
 have HRE := hD hre
 have HWW := hD hW
 obtain ⟨r, hr⟩ : ∃ r, r = did1 W i (kindN (cutA t)) (cutA (cutB t)) (cutB (cutB t)) := ⟨_, rfl⟩
 rw [← hr]
 have HX := hD (show ∀ (w9 : World), OwnD w9 X S gR cR G C W → base ≤ w9.heap.size → Calls Tryz.prog 45 #[.pointer (some ⟨X, 0, none⟩), .int .i64 i, .agg #[.int .i64 (kindN (cutA t)), .string (cutA (cutB t)), .string (cutB (cutB t))]] w9 (ExPost w9 base X S gR G W.ss.length r) from fun w9 h9 hb9 => by
  rw [hr]
  exact execute_plain base X S gR cR G C W i _ _ _ w9 h9 lo hw hb9 hi hkz hvz (by omega) (by omega) (by omega))
 clear hre hr hk1 hk2 hk8 hkz hvz hW
 have hz := worldOk_sz hw
 have hXw := h.box.lt
 have hSw := h.blk.lt
 have x1 := h.box.cell (j := 1) (by simp)
 simp only [gCZ, gCS] at x1
 unfold slc at x1
 have hii : (i : Int) < (W.ss.length : Int) := by omega
 have p1 : w.cell? ⟨S, i * 5 + 2, none⟩ = some (.slice (some ⟨G i 1, 0, none⟩) W.ss[i].prep.length (C i 1)) := h.cs i 1 hi (by omega)
 have b0 : Below w.heap.size w ((w.alloc (.cells #[.int .i64 0, .string ⟨#[]⟩, .int .i64 0] 46)).alloc (.cells #[.slice (some ⟨G i 1, 0, none⟩) W.ss[i].prep.length (C i 1)] 27)) := ((Below.refl _ _).alloc (nL _) _).alloc (by simp) _
 have X0 : RowTo ((w.alloc (.cells #[.int .i64 0, .string ⟨#[]⟩, .int .i64 0] 46)).alloc (.cells #[.slice (some ⟨G i 1, 0, none⟩) W.ss[i].prep.length (C i 1)] 27)) w.heap.size 46 3 [.int .i64 0, .string ⟨#[]⟩, .int .i64 0] := (RowTo.whole w #[.int .i64 0, .string ⟨#[]⟩, .int .i64 0] 46).alloc _
 have HL := hD ((h.list hz hi (j := 1) (by omega)).step b0)
 have HRI := hD ((pairsB_rising (hw.sess i hi).prep).1)
 have hF : findA [W.ss[i].prep] key = some t := by simp only [findA, hat]
 have HF := hD (show Calls Tryz.prog 68 #[.string key, .slice (some ⟨w.heap.size + 1, 0, none⟩) 1 1] ((w.alloc (.cells #[.int .i64 0, .string ⟨#[]⟩, .int .i64 0] 46)).alloc (.cells #[.slice (some ⟨G i 1, 0, none⟩) W.ss[i].prep.length (C i 1)] 27)) (fun e w' => e = .returned (.agg #[.int .i64 2, .string t, .int .i64 0]) ∧ Below ((w.alloc (.cells #[.int .i64 0, .string ⟨#[]⟩, .int .i64 0] 46)).alloc (.cells #[.slice (some ⟨G i 1, 0, none⟩) W.ss[i].prep.length (C i 1)] 27)).heap.size ((w.alloc (.cells #[.int .i64 0, .string ⟨#[]⟩, .int .i64 0] 46)).alloc (.cells #[.slice (some ⟨G i 1, 0, none⟩) W.ss[i].prep.length (C i 1)] 27)) w') by
  have q := find_any key (w.heap.size + 1) [W.ss[i].prep] (fun _ => .slice (some ⟨G i 1, 0, none⟩) W.ss[i].prep.length (C i 1)) ((w.alloc (.cells #[.int .i64 0, .string ⟨#[]⟩, .int .i64 0] 46)).alloc (.cells #[.slice (some ⟨G i 1, 0, none⟩) W.ss[i].prep.length (C i 1)] 27)) (by simp) (by simp) (fun n hn => by
   obtain rfl : n = 0 := by simp at hn; omega
   exact ⟨by simp [go_sem], HL.out, HRI.out⟩)
  rw [hF] at q
  exact q)
 have hzs : ((w.alloc (.cells #[.int .i64 0, .string ⟨#[]⟩, .int .i64 0] 46)).alloc (.cells #[.slice (some ⟨G i 1, 0, none⟩) W.ss[i].prep.length (C i 1)] 27)).heap.size = w.heap.size + 1 + 1 := by simp
 have H := hD h
 have HZ := hD hz
 have HW := hD hw
 have B0 := hD b0
 have HX0 := hD X0
 have HZS := hD hzs
 have HAT := hD hat
 clear h hz hw b0 X0 hzs hF hat
 go_enter Tryz.func69, Tryz.ntmps69
 go_wp2_with fail
 refine HF.out.mono ?_
 rintro e w1 ⟨rfl, hb1⟩
 have hs1 := hb1.size
 rw [HZS.out] at hs1
 have X1 := HX0.out.below hb1 HX0.out.lt
 have B1 := hD (bel_add' B0.out hb1 B0.out.size)
 have HX1 := hD X1
 clear hb1 X1
 go_wp2_with fail
 refine (read_ok t _ (by first | exact HWW.out.below (B1.out.alloc (by omega) _) | exact HWW.out.below B1.out) HRE.out).mono ?_
 rintro e w2 ⟨rfl, hb2⟩
 generalize hkk : kindN (cutA t) = kk at *
 generalize cutA (cutB t) = aa at *
 generalize cutB (cutB t) = bb at *
 have B2 := hD (show Below w.heap.size w (w2.alloc (.cells #[.int .i64 kk, .string aa, .string bb] 41)) from (bel_add' (B1.out.alloc (by omega) _) hb2 (by simp; omega)).alloc (by have := hb2.size; simp at this; omega) _)
 have X2 := hD (show RowTo (w2.alloc (.cells #[.int .i64 kk, .string aa, .string bb] 41)) w.heap.size 46 3 [.int .i64 0, .string ⟨#[]⟩, .int .i64 0] from (((HX1.out.alloc _).below hb2 (by simp; omega)).alloc _))
 have HGG := hD (show ∀ i j, i < W.ss.length → j < 4 → w.heap.size ≠ G i j from fun i j hi hj => by have := (H.out.ls i j hi hj).row.lt; omega)
 have hgr := H.out.rows.row.lt
 have hs2 : w.heap.size < (w2.alloc (.cells #[.int .i64 kk, .string aa, .string bb] 41)).heap.size := X2.out.lt
 have HS2 := hD hs2
 clear hb2 hs2
 go_wp2_with fail
 refine (HX.out _ (H.out.kept B2.out) (by have := HS2.out; omega)).mono ?_
 rintro e wB hp
 obtain rfl := hp.1
 have RB := X2.out.same (hp.2.2.2 w.heap.size HS2.out (by omega) (by omega) (by omega) HGG.out)
 have HP := hD hp
 have r0 := RB.cell (j := 0) (by simp)
 have r1 := RB.cell (j := 1) (by simp)
 have r2 := RB.cell (j := 2) (by simp)
 have s0 := RB.frozen 0
 have s1 := RB.frozen 1
 have s2 := RB.frozen 2
 simp only [gCZ, gCS] at r0 r1 r2
 have HRB := hD RB
 clear hp RB
 unfold ansV
 go_wp2
 refine bodyPost_ret (v := .agg #[.int .i64 r.2.kind, .string r.2.text, .int .i64 0]) (by simp [results, Tryz.results69, go_sem, r0, r1, r2]) rfl ?_
 exact HP.out.laid B2.out hb (nL _) HRB.out _ _ _
end Go.Proofs.YtpbaobmegomfpabGreatDoor
namespace Go.Proofs.YtpbaobmegomfpabGreatDoor
open Go.RowKit
set_option maxHeartbeats 2000000 in
theorem execute_exec (base X S gR cR : Nat) (G C : Nat → Nat → Nat) (W : Wd) (i : Nat) (key val : ByteArray) (w : World) (h : OwnD w X S gR cR G C W) (lo : LoD base X S gR G W.ss.length) (hw : WorldOk W) (hb : base ≤ w.heap.size) (hi : i < W.ss.length) (hkz : key.size ≤ 8) (hvz : val.size ≤ 60) (hst : W.ss[i].st ≠ 2) (hW : Words w) :
  Calls Tryz.prog 45 #[.pointer (some ⟨X, 0, none⟩), .int .i64 i, .agg #[.int .i64 8, .string key, .string val]] w (ExPost w base X S gR G W.ss.length (didM W i 8 key val)) := by
 have hz := worldOk_sz hw
 have hXw := h.box.lt
 have hSw := h.blk.lt
 have x1 := h.box.cell (j := 1) (by simp)
 simp only [gCZ, gCS] at x1
 unfold slc at x1
 have c0 := h.st i hi
 have hii : (i : Int) < (W.ss.length : Int) := by omega
 have b0 : Below w.heap.size w ((w.alloc (.cells #[.int .i64 8, .string key, .string val] 41)).alloc (.cells #[.int .i64 0, .string ⟨#[]⟩, .int .i64 0] 46)) := ((Below.refl _ _).alloc (nL _) _).alloc (by simp) _
 have h0 := h.kept b0
 have X0 : RowTo ((w.alloc (.cells #[.int .i64 8, .string key, .string val] 41)).alloc (.cells #[.int .i64 0, .string ⟨#[]⟩, .int .i64 0] 46)) (w.heap.size + 1) 46 3 [.int .i64 0, .string ⟨#[]⟩, .int .i64 0] := by
  have := RowTo.whole (w.alloc (.cells #[.int .i64 8, .string key, .string val] 41)) #[.int .i64 0, .string ⟨#[]⟩, .int .i64 0] 46
  simpa using this
 have hzs : ((w.alloc (.cells #[.int .i64 8, .string key, .string val] 41)).alloc (.cells #[.int .i64 0, .string ⟨#[]⟩, .int .i64 0] 46)).heap.size = w.heap.size + 1 + 1 := by simp
 have hgr := h.rows.row.lt
 have hgg : ∀ i j, i < W.ss.length → j < 4 → w.heap.size + 1 ≠ G i j := fun i j hi hj => by have := (h.ls i j hi hj).row.lt; omega
 obtain ⟨r, hr⟩ : ∃ r, r = didM W i 8 key val := ⟨_, rfl⟩
 rw [← hr]
 have hbs : base ≤ ((w.alloc (.cells #[.int .i64 8, .string key, .string val] 41)).alloc (.cells #[.int .i64 0, .string ⟨#[]⟩, .int .i64 0] 46)).heap.size := by omega
 have HC := hD (show Calls Tryz.prog 69 #[.pointer (some ⟨X, 0, none⟩), .int .i64 i, .string key] ((w.alloc (.cells #[.int .i64 8, .string key, .string val] 41)).alloc (.cells #[.int .i64 0, .string ⟨#[]⟩, .int .i64 0] 46)) (ExPost ((w.alloc (.cells #[.int .i64 8, .string key, .string val] 41)).alloc (.cells #[.int .i64 0, .string ⟨#[]⟩, .int .i64 0] 46)) base X S gR G W.ss.length r) by
  rw [hr]
  rw [show didM W i 8 key val = (match atL W.ss[i].prep key with | none => (W, no' tNotPrep) | some t => did1 W i (kindN (cutA t)) (cutA (cutB t)) (cutB (cutB t))) by unfold didM; simp only [getD_at hi]; rw [if_pos trivial, if_neg hst]; cases atL W.ss[i].prep key <;> rfl]
  cases hat : atL W.ss[i].prep key
  ·exact (exec_none X S gR cR G C W i key _ h0 hw hi hat).mono fun e w' hh => ExPost.same h0 lo hz hbs hh.1 hh.2
  ·exact exec_some base X S gR cR G C W i key _ _ h0 lo hw hbs hi (hW.below b0) hat)
 have H := hD h
 have HZ := hD hz
 have HW := hD hw
 have B0 := hD b0
 have HX0 := hD X0
 have HZS := hD hzs
 have HG := hD hgg
 have HR := hD hr
 clear h hz hw b0 X0 hzs hgg hr h0 hbs
 have e2 : (W.ss[i].st == 2) = false := beq_eq_false_iff_ne.2 hst
 ·skip
  go_enter Tryz.func45, Tryz.ntmps45
  go_wp2_with fail
  refine HC.out.mono ?_
  rintro e wB hp
  obtain rfl := hp.1
  have RB := HX0.out.same (hp.2.2.2 (w.heap.size + 1) (by rw [HZS.out]; omega) (by omega) (by omega) (by omega) HG.out)
  have HP := hD hp
  have r0 := RB.cell (j := 0) (by simp)
  have r1 := RB.cell (j := 1) (by simp)
  have r2 := RB.cell (j := 2) (by simp)
  have s0 := RB.frozen 0
  have s1 := RB.frozen 1
  have s2 := RB.frozen 2
  simp only [gCZ, gCS] at r0 r1 r2
  have HRB := hD RB
  clear hp RB
  unfold ansV
  go_wp2
  refine bodyPost_ret (v := .agg #[.int .i64 r.2.kind, .string r.2.text, .int .i64 0]) (by simp [results, Tryz.results45, go_sem, r0, r1, r2]) rfl ?_
  exact HP.out.laid B0.out hb (by omega) HRB.out _ _ _
theorem execute_any (base X S gR cR : Nat) (G C : Nat → Nat → Nat) (W : Wd) (i : Nat) (k : Int) (key val : ByteArray) (w : World) (h : OwnD w X S gR cR G C W) (lo : LoD base X S gR G W.ss.length) (hw : WorldOk W) (hb : base ≤ w.heap.size) (hi : i < W.ss.length) (hg : checkE k key val = 0) (hW : Words w) :
  Calls Tryz.prog 45 #[.pointer (some ⟨X, 0, none⟩), .int .i64 i, .agg #[.int .i64 k, .string key, .string val]] w (ExPost w base X S gR G W.ss.length (didM W i k key val)) := by
 have g := good_of hg
 by_cases h8 : k = 8
 ·subst h8
  by_cases hst : W.ss[i].st = 2
  ·have q := execute_failed base X S gR cR G C W i 8 key val w h lo hw hb hi g.key8 g.v60 hst (by omega)
   rw [show didM W i 8 key val = did1 W i 8 key val by rw [show did1 W i 8 key val = (W, no' tFailed) by unfold did1; simp only [getD_at hi]; rw [if_pos ⟨hst, by omega⟩]]; unfold didM; simp only [getD_at hi]; rw [if_pos trivial, if_pos hst]]
   exact q
  ·exact execute_exec base X S gR cR G C W i key val w h lo hw hb hi g.key8 g.v60 hst hW
 ·rw [show didM W i k key val = did1 W i k key val by unfold didM; rw [if_neg h8]]
  exact execute_plain base X S gR cR G C W i k key val w h lo hw hb hi g.key8 g.v60 g.lo g.hi h8
end Go.Proofs.YtpbaobmegomfpabGreatDoor
namespace Go.Proofs.YtpbaobmegomfpabGreatDoor
open Go.RowKit Go.Maps Go.WideMaps
theorem key_string {key : Value} {l : Lit} (h : keyOf Tryz.prog 9 key = some l) : ∃ s, key = .string s ∧ l = kl s := by
 cases key <;> simp [keyOf, Tryz.underlying9, mapKey] at h
 exact ⟨_, rfl, h.2.symm⟩
def FitsRel (w : World) (W : Wd) (b r n : Nat) (D : DataW Unit) (wr : World) : Prop :=
 ∃ left cnt, wr.ranges Tryz.prog 9 (plainElem Tryz.prog 3) b r n D left cnt ∧ (∀ key, Maps.has D (kl key) = true → left (kl key) = true ∨ cntL (W.ss.flatMap (·.wr)) key ≤ 1) ∧ Below w.heap.size w wr
set_option maxHeartbeats 4000000 in
theorem rowsFit_any (r s : Value) (W : Wd) (w : World) (hW : Wld w w.heap.size r s W) (hr100 : W.rows.length ≤ 100) (hrise : risingB W.rows = true) (h8 : W.ss.length ≤ 8) (hw100 : ∀ i (hi : i < W.ss.length), W.ss[i].wr.length ≤ 100) :
  Calls Tryz.prog 92 #[.agg #[r, s]] w fun e w' => e = .returned (.bool (cntOk W && decide ((allL W).length ≤ 100))) ∧ Below w.heap.size w w' := by
 have HWW := hD hW
 obtain ⟨A, c, rfl, hc⟩ := hW.sess.form
 obtain ⟨D, d, rfl, hd⟩ := hW.rows.form
 have HN := hD hw100
 have HI := hD hrise
 clear hw100 hrise hW
 have b0 : Below w.heap.size w (w.alloc (.cells #[.slice D W.rows.length d, .slice A W.ss.length c] 39)) := (Below.refl _ _).alloc (nL _) _
 go_enter Tryz.func92, Tryz.ntmps92
 go_wp2_with fail
 refine (countWriters_any _ _ W _ (HWW.out.step b0) hr100 HI.out h8 HN.out).mono ?_
 rintro e w1 ⟨b, n, M, rfl, hown, hmap, hn, hb, hb1⟩
 have HB := hD (bel_add' b0 hb1 b0.size)
 have HM := hD hmap
 have HO := hD hown
 have hbw : w.heap.size ≤ b := by have := b0.size; omega
 clear hown hmap hb1
 go_wp2_with (first | (at_range; refine wpList_range_own _ rfl _ 162 rfl 9 3 strLaw Tryz.underlying162 _ b n M rfl HO.out ?_; intro w0 hrg0 hg0 hs0) | go_in)
 go_frame
 have HR0 := hD hrg0
 have HB0 := hD (HB.out.grown hg0 HB.out.size (fun k hk => by cases hk))
 have hrr : w.heap.size ≤ w1.heap.size := HB.out.size
 clear hrg0 hg0 hs0 HO
 go_loopw [5] (fun _ wr => FitsRel w W b w1.heap.size n M wr) (fun _ wr => wr.rangeLeft b w1.heap.size)
 case atStart => exact ⟨_, _, HR0.out, fun key h => .inl h, HB0.out⟩
 case round =>
  clear HR0 HB0
  obtain ⟨left, cnt, hrg, hok, bel⟩ := hrel
  have HG := hD hrg
  have HK := hD hok
  have HB1 := hD bel
  clear hrg hok bel
  go_wp2_with (first | (at_next; refine wpList_next_ranges _ rfl _ rfl 9 strLaw (plainElem Tryz.prog 3) Value.string (Value.int .i64) (fun key l h => (by obtain ⟨x, hx, _⟩ := key_string h; exact ⟨x, hx⟩)) (fun v y hv => (by obtain ⟨q, hq, _⟩ := plainElem_int_inv Tryz.underlying3 hv; exact ⟨q, hq⟩)) b w1.heap.size n _ _ _ rfl HG.out ?_ ?_) | go_in)
  ·intro hc0 hl0
   have HF := hD (cntOk_yes (W := W) (fun key => by
    cases hh : Maps.has M (kl key)
    ·have h1 := HM.out.at_ key
     rw [atKey_of_not_has hh] at h1
     have := lit_inj h1
     omega
    ·rcases HK.out key hh with h | h
     ·rw [hl0] at h; cases h
     ·exact h))
   have HZ := hD HM.out.size
   clear hc0 hl0
   go_wp2_with (first | (at_len; refine wpList_len_own _ rfl _ 162 rfl 9 3 Tryz.underlying162 _ b n M rfl HG.out.owns ?_) | go_in)
   go_ret
   refine ⟨?_, HB1.out⟩
   rw [HF.out, HZ.out, Bool.true_and]
   simp
   omega
  ·intro x q l y yp w2 cnt2 hkey hlx hval hat hrg2 hlt2 hg2 hs2 hen
   obtain ⟨x', ex, rfl⟩ := key_string hkey
   obtain rfl : x = x' := by injection ex
   obtain ⟨q', eq', hy, _⟩ := plainElem_int_inv Tryz.underlying3 hval
   obtain rfl : q = q' := by injection eq'
   have hq : q = (cntL (W.ss.flatMap (·.wr)) x : Int) := by
    have h1 := hat (.lit (.int .i64 0))
    rw [HM.out.at_ x, (Prod.mk.inj hy).1] at h1
    exact (lit_inj h1).symm
   subst hq
   have HH := hD hrg2
   have HB2 := hD (HB1.out.grown hg2 HB1.out.size (fun k hk => by injection hk with hk; omega))
   have HLQ := hD (show wr.rangeLeft b w1.heap.size = cnt from HG.out.left_eq)
   clear hrg2 hg2 hs2 hkey hlx hval hat ex eq' hy
   by_cases hgt : 1 < cntL (W.ss.flatMap (·.wr)) x
   ·have HP := hD (cntOk_no hgt)
    have e1 : decide ((1 : Int) < (cntL (W.ss.flatMap (·.wr)) x : Int)) = true := decide_eq_true (by omega)
    have e2 : decide (1 < cntL (W.ss.flatMap (·.wr)) x) = true := decide_eq_true hgt
    go_wp2
    go_ret
    exact ⟨by rw [HP.out]; rfl, HB2.out⟩
   ·have e1 : decide ((1 : Int) < (cntL (W.ss.flatMap (·.wr)) x : Int)) = false := decide_eq_false (by omega)
    have e2 : decide (1 < cntL (W.ss.flatMap (·.wr)) x) = false := decide_eq_false hgt
    have HX := hD hgt
    clear hgt
    go_wp2
    go_roundw
    case rel =>
     refine ⟨_, _, HH.out, fun key hk => ?_, HB2.out⟩
     by_cases e : key = x
     ·subst e; exact .inr (by have := HX.out; omega)
     ·rcases HK.out key hk with h | h
      ·left; rw [h, sameKey_ne (kl_ne e)]; rfl
      ·exact .inr h
    case measure => rw [HH.out.left_eq, HLQ.out]; exact hlt2
end Go.Proofs.YtpbaobmegomfpabGreatDoor
namespace Go.Proofs.YtpbaobmegomfpabGreatDoor
open Go.RowKit
end Go.Proofs.YtpbaobmegomfpabGreatDoor
namespace Go.Proofs.YtpbaobmegomfpabGreatDoor
open Go.RowKit
end Go.Proofs.YtpbaobmegomfpabGreatDoor
namespace Go.Proofs.YtpbaobmegomfpabGreatDoor
open Go.RowKit
end Go.Proofs.YtpbaobmegomfpabGreatDoor
namespace Go.Proofs.YtpbaobmegomfpabGreatDoor
open Go.RowKit
end Go.Proofs.YtpbaobmegomfpabGreatDoor
namespace Go.Proofs.YtpbaobmegomfpabGreatDoor
open Go.RowKit
def GoodTo (l : PL) (kind : Int) (k : Nat) : Prop := (∀ j (h : j < l.length), j < k → checkE kind l[j].1 l[j].2 = 0) ∧ ∀ j (h : j + 1 < l.length), j + 1 < k → ltB l[j].1 l[j + 1].1 = true
theorem GoodTo.zero {l : PL} {kind : Int} {k : Nat} (h : GoodTo l kind k) (hk : k = 0) {hlt : k < l.length} (hc : checkE kind l[k].1 l[k].2 = 0) : GoodTo l kind (k + 1) := by
 subst hk
 refine ⟨fun j hj hjk => ?_, fun j hj hjk => by omega⟩
 obtain rfl : j = 0 := by omega
 exact hc
theorem GoodTo.succ {l : PL} {kind : Int} {k : Nat} (h : GoodTo l kind k) (hk : k ≠ 0) {hlt : k < l.length} (hc : checkE kind l[k].1 l[k].2 = 0) (hq : ltB l[k - 1].1 l[k].1 = true) : GoodTo l kind (k + 1) := by
 refine ⟨fun j hj hjk => ?_, fun j hj hjk => ?_⟩
 ·by_cases e : j = k
  ·subst e; exact hc
  ·exact h.1 j hj (by omega)
 ·by_cases e : j + 1 = k
  ·subst e; exact hq
  ·exact h.2 j hj (by omega)
theorem GoodTo.all {l : PL} {kind : Int} {k most : Nat} (h : GoodTo l kind k) (hk : l.length ≤ k) (hm : l.length ≤ most) : pairsB l most kind = true :=
 pairsB_yes (fun j hj => h.1 j hj (by omega)) (fun j hj => h.2 j hj (by omega)) hm
theorem pairsB_fall' {l : PL} {most : Nat} {kind : Int} {k : Nat} (hk : k < l.length) (h0 : k ≠ 0) (h : ltB l[k - 1].1 l[k].1 = false) : pairsB l most kind = false := by
 obtain ⟨j, rfl⟩ : ∃ j, k = j + 1 := ⟨k - 1, by omega⟩
 exact pairsB_fall hk h
theorem leB_yes {a b : ByteArray} (h : ltB b a = false) : (Op.bytesLess a.toList b.toList || a.toList == b.toList) = true := by
 cases h1 : ltB a b
 ·have := ltB_total h h1
  subst this
  simp
 ·unfold ltB at h1; rw [h1]; rfl
theorem leB_no {a b : ByteArray} (h : ltB b a = true) : Op.bytesLess a.toList b.toList = false ∧ (a.toList == b.toList) = false :=
 ⟨ltB_asymm h, eqB_false.2 (fun e => ltB_ne h e.symm)⟩
def FitRel (w : World) (l : PL) (kind : Int) (k : Nat) (wr : World) : Prop := GoodTo l kind k ∧ Below w.heap.size w wr
set_option maxHeartbeats 1000000 in
theorem listFits_any (v : Value) (l : PL) (kind : Int) (limit : Nat) (w : World) (hl : Lst w w.heap.size v l) (hW : Words w) (hlim : limit ≤ 1000) :
  Calls Tryz.prog 90 #[v, .int .i64 kind, .int .i64 limit] w fun e w' => e = .returned (.bool (pairsB l limit kind)) ∧ Below w.heap.size w w' := by
 obtain ⟨A, c, rfl, hc⟩ := hl.form
 have hby := hl.bytes
 have HL := hD hl
 have HW := hD hW
 clear hl hW
 by_cases hlen : l.length ≤ limit
 ·have hd : decide ((limit : Int) < (l.length : Int)) = false := decide_eq_false (by omega)
  have hd' : decide (limit < l.length) = false := decide_eq_false (by omega)
  go_enter Tryz.func90, Tryz.ntmps90
  go_wp2
  go_loopw [15] (fun i wr => ∃ k : Nat, k ≤ l.length ∧ i = .int .i64 k ∧ FitRel w l kind k wr) (fun i _ => l.length - (intOf i).toNat)
  case atStart => exact ⟨0, by omega, rfl, ⟨fun j _ h => by omega, fun j _ h => by omega⟩, Below.refl _ _⟩
  case round =>
   obtain ⟨k, hk, rfl, good, bel⟩ := hrel
   by_cases hlt : k < l.length
   ·obtain ⟨b, off, rfl, hb, c0, c1⟩ := HL.out.pt hlt
    obtain ⟨z0, z1⟩ := HL.out.key hlt
    have d0 := (bel.cell (p := ⟨b, off + k * 2, none⟩) hb).trans c0
    have d1 := (bel.cell (p := ⟨b, off + k * 2 + 1, none⟩) hb).trans c1
    have hbw : b < wr.heap.size := Nat.lt_of_lt_of_le hb bel.size
    have HG := hD good
    have HB := hD bel
    clear good bel c0 c1
    by_cases hk0 : k = 0
    ·have g0 : decide ((0 : Int) < (k : Int)) = false := decide_eq_false (by omega)
     have g1 : decide (0 < k) = false := decide_eq_false (by omega)
     have HK := hD hk0
     clear hk0
     go_wp2
     go_quiet (fail)
     go_wp2_with fail
     have B1 := below_drewN (HB.out.alloc HB.out.size (.cells #[.string l[k].1, .string l[k].2] 60)) nq
     by_cases hce : checkE kind l[k].1 l[k].2 = 0
     ·have HC := hD hce
      clear hce
      refine (check_any kind l[k].1 l[k].2 _ (by unfold maxLen; omega) (by unfold maxLen; omega) (HW.out.below B1)).mono ?_
      rw [HC.out]
      rintro e w2 ⟨rfl, hb2⟩
      go_wp2
      go_roundw
      case rel => exact ⟨k + 1, by omega, by go_num, HG.out.zero HK.out HC.out, bel_trans B1 hb2⟩
      case measure => simp [intOf]; omega
     ·have HP := hD (pairsB_bad (most := limit) hlt hce)
      have hne : (checkE kind l[k].1 l[k].2 != 0) = true := bne_iff_ne.2 hce
      clear hce
      refine (check_any kind l[k].1 l[k].2 _ (by unfold maxLen; omega) (by unfold maxLen; omega) (HW.out.below B1)).mono ?_
      rintro e w2 ⟨rfl, hb2⟩
      go_wp2
      go_ret
      exact ⟨by rw [HP.out]; rfl, bel_trans B1 hb2⟩
    ·obtain ⟨b', off', e', _, c0', _⟩ := HL.out.pt (k := k - 1) (by omega)
     obtain ⟨rfl, rfl⟩ : b = b' ∧ off = off' := by injection e' with e'; injection e' with e1 e2; exact ⟨e1, e2⟩
     clear e'
     have d0' := (HB.out.cell (p := ⟨b, off + (k - 1) * 2, none⟩) hb).trans c0'
     have g0 : decide ((0 : Int) < (k : Int)) = true := decide_eq_true (by omega)
     have g1 : decide (0 < k) = true := decide_eq_true (by omega)
     have q1 : IntKind.i64.wrap ((k : Int) - 1) = (k : Int) - 1 := IntWalk.i64_in _ (by omega)
     have q2 : ((k : Int) - 1).toNat = k - 1 := by omega
     have q3 : (0 : Int) ≤ (k : Int) - 1 := by omega
     have q4 : (1 : Int) ≤ (k : Int) := by omega
     have q5 : (k : Int) - 1 < (l.length : Int) := by omega
     clear c0'
     cases hq : ltB l[k - 1].1 l[k].1
     ·have HP := hD (pairsB_fall' (most := limit) (kind := kind) hlt hk0 hq)
      have e1 := leB_yes hq
      clear hq
      go_wp2
      go_quiet (fail)
      go_wp2
      go_ret
      exact ⟨by rw [HP.out]; rfl, below_drewN (HB.out.alloc HB.out.size _) nq⟩
     obtain ⟨e1, e2⟩ := leB_no hq
     have HQ := hD hq
     clear hq
     go_wp2
     go_quiet (fail)
     go_wp2_with fail
     have B1 := below_drewN (HB.out.alloc HB.out.size (.cells #[.string l[k].1, .string l[k].2] 60)) nq
     by_cases hce : checkE kind l[k].1 l[k].2 = 0
     ·have HC := hD hce
      clear hce
      refine (check_any kind l[k].1 l[k].2 _ (by unfold maxLen; omega) (by unfold maxLen; omega) (HW.out.below B1)).mono ?_
      rw [HC.out]
      rintro e w2 ⟨rfl, hb2⟩
      go_wp2
      go_roundw
      case rel => exact ⟨k + 1, by omega, by go_num, HG.out.succ hk0 HC.out HQ.out, bel_trans B1 hb2⟩
      case measure => simp [intOf]; omega
     ·have HP := hD (pairsB_bad (most := limit) hlt hce)
      have hne : (checkE kind l[k].1 l[k].2 != 0) = true := bne_iff_ne.2 hce
      clear hce
      refine (check_any kind l[k].1 l[k].2 _ (by unfold maxLen; omega) (by unfold maxLen; omega) (HW.out.below B1)).mono ?_
      rintro e w2 ⟨rfl, hb2⟩
      go_wp2
      go_ret
      exact ⟨by rw [HP.out]; rfl, bel_trans B1 hb2⟩
   ·have HP := hD (good.all (by omega) hlen)
    go_wp2
    go_ret
    exact ⟨by rw [HP.out]; rfl, bel⟩
 ·have hd : decide ((limit : Int) < (l.length : Int)) = true := decide_eq_true (by omega)
  have HP := hD (pairsB_long (kind := kind) hlen)
  go_enter Tryz.func90, Tryz.ntmps90
  go_wp2
  go_ret
  exact ⟨by rw [HP.out]; rfl, Below.refl _ _⟩
end Go.Proofs.YtpbaobmegomfpabGreatDoor
namespace Go.Proofs.YtpbaobmegomfpabGreatDoor
open Go.RowKit
theorem sess_row' {w : World} {v0 v1 v2 v3 v4 : Value} : RowTo (w.alloc (.cells #[v0, v1, v2, v3, v4] 115)) w.heap.size 115 5 [v0, v1, v2, v3, v4] := RowTo.whole w #[v0, v1, v2, v3, v4] 115
set_option maxHeartbeats 4000000 in
theorem sessionFits_any (s : Sess) (v1 v2 v3 v4 : Value) (w : World) (h1 : Lst w w.heap.size v1 s.set) (h2 : Lst w w.heap.size v2 s.prep) (h3 : Lst w w.heap.size v3 s.sav) (h4 : Lst w w.heap.size v4 s.wr) (hW : Words w) :
  Calls Tryz.prog 91 #[.agg #[.int .i64 s.st, v1, v2, v3, v4]] w fun e w' => e = .returned (.bool (sessB s)) ∧ Below w.heap.size w w' := by
 obtain ⟨A1, c1, rfl, _⟩ := h1.form
 obtain ⟨A2, c2, rfl, _⟩ := h2.form
 obtain ⟨A3, c3, rfl, _⟩ := h3.form
 obtain ⟨A4, c4, rfl, _⟩ := h4.form
 have L1 := hD h1
 have L2 := hD h2
 have L3 := hD h3
 have L4 := hD h4
 have HW := hD hW
 clear h1 h2 h3 h4 hW
 have B0 := hD ((Below.refl w.heap.size w).alloc (nL _) (.cells #[.int .i64 s.st, .slice A1 s.set.length c1, .slice A2 s.prep.length c2, .slice A3 s.sav.length c3, .slice A4 s.wr.length c4] 115))
 have S0 := hD (sess_row' (w := w) (v0 := .int .i64 s.st) (v1 := .slice A1 s.set.length c1) (v2 := .slice A2 s.prep.length c2) (v3 := .slice A3 s.sav.length c3) (v4 := .slice A4 s.wr.length c4))
 by_cases hst : s.st < 0 ∨ 2 < s.st
 ·have HP := hD (sessB_st (s := s) (inB_no (by omega)))
  rcases hst with hst | hst
  ·have d1 : decide (s.st < 0) = true := decide_eq_true hst
   go_enter Tryz.func91, Tryz.ntmps91
   go_wp2
   go_ret
   exact ⟨by rw [HP.out]; rfl, B0.out⟩
  ·have d1 : decide (s.st < 0) = false := decide_eq_false (by omega)
   have d2 : decide (2 < s.st) = true := decide_eq_true hst
   go_enter Tryz.func91, Tryz.ntmps91
   go_wp2
   go_ret
   exact ⟨by rw [HP.out]; rfl, B0.out⟩
 have d1 : decide (s.st < 0) = false := decide_eq_false (by omega)
 have d2 : decide (2 < s.st) = false := decide_eq_false (by omega)
 have H0 := hD (show inB 0 s.st 2 = true from inB_yes (by omega))
 by_cases h5 : s.st = 0 ∧ 0 < s.sav.length
 ·have HP := hD (sessB_idle h5.1 h5.2)
  have e1 : (s.st == 0) = true := beq_iff_eq.2 h5.1
  have e2 : decide ((0 : Int) < (s.sav.length : Int)) = true := decide_eq_true (by omega)
  have e3 : decide (0 < s.sav.length) = true := decide_eq_true h5.2
  clear h5 hst
  go_enter Tryz.func91, Tryz.ntmps91
  go_wp2
  go_ret
  exact ⟨by rw [HP.out]; rfl, B0.out⟩
 by_cases h6 : s.st ≠ 1 ∧ 0 < s.wr.length
 ·have HP := hD (sessB_tx h6.1 h6.2)
  have e1 : (s.st != 1) = true := bne_iff_ne.2 h6.1
  have e2 : decide ((0 : Int) < (s.wr.length : Int)) = true := decide_eq_true (by omega)
  have e3 : decide (0 < s.wr.length) = true := decide_eq_true h6.2
  by_cases hs0 : s.st = 0
  ·have e4 : (s.st == 0) = true := beq_iff_eq.2 hs0
   have e5 : decide ((0 : Int) < (s.sav.length : Int)) = false := decide_eq_false (fun h => h5 ⟨hs0, by omega⟩)
   have e6 : decide (0 < s.sav.length) = false := decide_eq_false (fun h => h5 ⟨hs0, h⟩)
   clear h5 h6 hst hs0
   go_enter Tryz.func91, Tryz.ntmps91
   go_wp2
   go_ret
   exact ⟨by rw [HP.out]; rfl, B0.out⟩
  ·have e4 : (s.st == 0) = false := beq_eq_false_iff_ne.2 hs0
   clear h5 h6 hst hs0
   go_enter Tryz.func91, Tryz.ntmps91
   go_wp2
   go_ret
   exact ⟨by rw [HP.out]; rfl, B0.out⟩
 have HG := hD (fun a b c d => sessB_ok H0.out a b c d h5 h6)
 by_cases hs1 : s.st = 1
 ·have e1 : (s.st != 1) = false := by rw [hs1]; rfl
  have e4 : (s.st == 0) = false := by rw [hs1]; rfl
  clear h5 h6 hst hs1
  cases h1 : pairsB s.set 6 9
  ·have HP := hD (sessB_set h1)
   have H1 := hD h1
   clear h1
   go_enter Tryz.func91, Tryz.ntmps91
   go_wp2_with fail
   refine (listFits_any _ s.set 9 6 _ (L1.out.step B0.out) (HW.out.below B0.out) (by omega)).mono ?_
   rw [H1.out]
   rintro e w3 ⟨rfl, hb3⟩
   have B1 := hD (bel_add' B0.out hb3 B0.out.size)
   have S1 := hD (S0.out.below hb3 S0.out.lt)
   have y0 := S1.out.cell (j := 3) (by simp)
   simp only [gCZ, gCS] at y0
   clear hb3
   go_wp2
   go_ret
   exact ⟨by rw [HP.out]; rfl, B1.out⟩
  have H1 := hD h1
  clear h1
  cases h3 : pairsB s.sav 6 9
  ·have HP := hD (sessB_sav h3)
   have H3 := hD h3
   clear h3
   go_enter Tryz.func91, Tryz.ntmps91
   go_wp2_with fail
   refine (listFits_any _ s.set 9 6 _ (L1.out.step B0.out) (HW.out.below B0.out) (by omega)).mono ?_
   rw [H1.out]
   rintro e w3 ⟨rfl, hb3⟩
   have B1 := hD (bel_add' B0.out hb3 B0.out.size)
   have S1 := hD (S0.out.below hb3 S0.out.lt)
   have y0 := S1.out.cell (j := 3) (by simp)
   simp only [gCZ, gCS] at y0
   clear hb3
   go_wp2_with fail
   refine (listFits_any _ s.sav 9 6 _ (L3.out.step B1.out) (HW.out.below B1.out) (by omega)).mono ?_
   rw [H3.out]
   rintro e w4 ⟨rfl, hb4⟩
   have B2 := hD (bel_add' B1.out hb4 B1.out.size)
   have S2 := hD (S1.out.below hb4 S1.out.lt)
   have y1 := S2.out.cell (j := 2) (by simp)
   simp only [gCZ, gCS] at y1
   clear hb4
   go_wp2
   go_ret
   exact ⟨by rw [HP.out]; rfl, B2.out⟩
  have H3 := hD h3
  clear h3
  cases h2 : pairsB s.prep 6 11
  ·have HP := hD (sessB_prep h2)
   have H2 := hD h2
   clear h2
   go_enter Tryz.func91, Tryz.ntmps91
   go_wp2_with fail
   refine (listFits_any _ s.set 9 6 _ (L1.out.step B0.out) (HW.out.below B0.out) (by omega)).mono ?_
   rw [H1.out]
   rintro e w3 ⟨rfl, hb3⟩
   have B1 := hD (bel_add' B0.out hb3 B0.out.size)
   have S1 := hD (S0.out.below hb3 S0.out.lt)
   have y0 := S1.out.cell (j := 3) (by simp)
   simp only [gCZ, gCS] at y0
   clear hb3
   go_wp2_with fail
   refine (listFits_any _ s.sav 9 6 _ (L3.out.step B1.out) (HW.out.below B1.out) (by omega)).mono ?_
   rw [H3.out]
   rintro e w4 ⟨rfl, hb4⟩
   have B2 := hD (bel_add' B1.out hb4 B1.out.size)
   have S2 := hD (S1.out.below hb4 S1.out.lt)
   have y1 := S2.out.cell (j := 2) (by simp)
   simp only [gCZ, gCS] at y1
   clear hb4
   go_wp2_with fail
   refine (listFits_any _ s.prep 11 6 _ (L2.out.step B2.out) (HW.out.below B2.out) (by omega)).mono ?_
   rw [H2.out]
   rintro e w5 ⟨rfl, hb5⟩
   have B3 := hD (bel_add' B2.out hb5 B2.out.size)
   have S3 := hD (S2.out.below hb5 S2.out.lt)
   have y2 := S3.out.cell (j := 4) (by simp)
   simp only [gCZ, gCS] at y2
   clear hb5
   go_wp2
   go_ret
   exact ⟨by rw [HP.out]; rfl, B3.out⟩
  have H2 := hD h2
  clear h2
  cases h4 : pairsB s.wr 100 10
  ·have HP := hD (sessB_wr h4)
   have H4 := hD h4
   clear h4
   go_enter Tryz.func91, Tryz.ntmps91
   go_wp2_with fail
   refine (listFits_any _ s.set 9 6 _ (L1.out.step B0.out) (HW.out.below B0.out) (by omega)).mono ?_
   rw [H1.out]
   rintro e w3 ⟨rfl, hb3⟩
   have B1 := hD (bel_add' B0.out hb3 B0.out.size)
   have S1 := hD (S0.out.below hb3 S0.out.lt)
   have y0 := S1.out.cell (j := 3) (by simp)
   simp only [gCZ, gCS] at y0
   clear hb3
   go_wp2_with fail
   refine (listFits_any _ s.sav 9 6 _ (L3.out.step B1.out) (HW.out.below B1.out) (by omega)).mono ?_
   rw [H3.out]
   rintro e w4 ⟨rfl, hb4⟩
   have B2 := hD (bel_add' B1.out hb4 B1.out.size)
   have S2 := hD (S1.out.below hb4 S1.out.lt)
   have y1 := S2.out.cell (j := 2) (by simp)
   simp only [gCZ, gCS] at y1
   clear hb4
   go_wp2_with fail
   refine (listFits_any _ s.prep 11 6 _ (L2.out.step B2.out) (HW.out.below B2.out) (by omega)).mono ?_
   rw [H2.out]
   rintro e w5 ⟨rfl, hb5⟩
   have B3 := hD (bel_add' B2.out hb5 B2.out.size)
   have S3 := hD (S2.out.below hb5 S2.out.lt)
   have y2 := S3.out.cell (j := 4) (by simp)
   simp only [gCZ, gCS] at y2
   clear hb5
   go_wp2_with fail
   refine (listFits_any _ s.wr 10 100 _ (L4.out.step B3.out) (HW.out.below B3.out) (by omega)).mono ?_
   rw [H4.out]
   rintro e w6 ⟨rfl, hb6⟩
   have B4 := hD (bel_add' B3.out hb6 B3.out.size)
   have S4 := hD (S3.out.below hb6 S3.out.lt)
   have y3 := S4.out.cell (j := 0) (by simp)
   simp only [gCZ, gCS] at y3
   clear hb6
   go_wp2
   go_ret
   exact ⟨by rw [HP.out]; rfl, B4.out⟩
  have H4 := hD h4
  clear h4
  have HP := hD (HG.out H1.out H2.out H3.out H4.out)
  go_enter Tryz.func91, Tryz.ntmps91
  go_wp2_with fail
  refine (listFits_any _ s.set 9 6 _ (L1.out.step B0.out) (HW.out.below B0.out) (by omega)).mono ?_
  rw [H1.out]
  rintro e w3 ⟨rfl, hb3⟩
  have B1 := hD (bel_add' B0.out hb3 B0.out.size)
  have S1 := hD (S0.out.below hb3 S0.out.lt)
  have y0 := S1.out.cell (j := 3) (by simp)
  simp only [gCZ, gCS] at y0
  clear hb3
  go_wp2_with fail
  refine (listFits_any _ s.sav 9 6 _ (L3.out.step B1.out) (HW.out.below B1.out) (by omega)).mono ?_
  rw [H3.out]
  rintro e w4 ⟨rfl, hb4⟩
  have B2 := hD (bel_add' B1.out hb4 B1.out.size)
  have S2 := hD (S1.out.below hb4 S1.out.lt)
  have y1 := S2.out.cell (j := 2) (by simp)
  simp only [gCZ, gCS] at y1
  clear hb4
  go_wp2_with fail
  refine (listFits_any _ s.prep 11 6 _ (L2.out.step B2.out) (HW.out.below B2.out) (by omega)).mono ?_
  rw [H2.out]
  rintro e w5 ⟨rfl, hb5⟩
  have B3 := hD (bel_add' B2.out hb5 B2.out.size)
  have S3 := hD (S2.out.below hb5 S2.out.lt)
  have y2 := S3.out.cell (j := 4) (by simp)
  simp only [gCZ, gCS] at y2
  clear hb5
  go_wp2_with fail
  refine (listFits_any _ s.wr 10 100 _ (L4.out.step B3.out) (HW.out.below B3.out) (by omega)).mono ?_
  rw [H4.out]
  rintro e w6 ⟨rfl, hb6⟩
  have B4 := hD (bel_add' B3.out hb6 B3.out.size)
  have S4 := hD (S3.out.below hb6 S3.out.lt)
  have y3 := S4.out.cell (j := 0) (by simp)
  simp only [gCZ, gCS] at y3
  clear hb6
  go_wp2
  go_ret
  exact ⟨by rw [HP.out]; rfl, B4.out⟩
 have e1 : (s.st != 1) = true := bne_iff_ne.2 hs1
 have e2 : decide ((0 : Int) < (s.wr.length : Int)) = false := decide_eq_false (fun h => h6 ⟨hs1, by omega⟩)
 have e3 : decide (0 < s.wr.length) = false := decide_eq_false (fun h => h6 ⟨hs1, h⟩)
 by_cases hs0 : s.st = 0
 ·have e4 : (s.st == 0) = true := beq_iff_eq.2 hs0
  have e5 : decide ((0 : Int) < (s.sav.length : Int)) = false := decide_eq_false (fun h => h5 ⟨hs0, by omega⟩)
  have e6 : decide (0 < s.sav.length) = false := decide_eq_false (fun h => h5 ⟨hs0, h⟩)
  clear h5 h6 hst hs1 hs0
  cases h1 : pairsB s.set 6 9
  ·have HP := hD (sessB_set h1)
   have H1 := hD h1
   clear h1
   go_enter Tryz.func91, Tryz.ntmps91
   go_wp2_with fail
   refine (listFits_any _ s.set 9 6 _ (L1.out.step B0.out) (HW.out.below B0.out) (by omega)).mono ?_
   rw [H1.out]
   rintro e w3 ⟨rfl, hb3⟩
   have B1 := hD (bel_add' B0.out hb3 B0.out.size)
   have S1 := hD (S0.out.below hb3 S0.out.lt)
   have y0 := S1.out.cell (j := 3) (by simp)
   simp only [gCZ, gCS] at y0
   clear hb3
   go_wp2
   go_ret
   exact ⟨by rw [HP.out]; rfl, B1.out⟩
  have H1 := hD h1
  clear h1
  cases h3 : pairsB s.sav 6 9
  ·have HP := hD (sessB_sav h3)
   have H3 := hD h3
   clear h3
   go_enter Tryz.func91, Tryz.ntmps91
   go_wp2_with fail
   refine (listFits_any _ s.set 9 6 _ (L1.out.step B0.out) (HW.out.below B0.out) (by omega)).mono ?_
   rw [H1.out]
   rintro e w3 ⟨rfl, hb3⟩
   have B1 := hD (bel_add' B0.out hb3 B0.out.size)
   have S1 := hD (S0.out.below hb3 S0.out.lt)
   have y0 := S1.out.cell (j := 3) (by simp)
   simp only [gCZ, gCS] at y0
   clear hb3
   go_wp2_with fail
   refine (listFits_any _ s.sav 9 6 _ (L3.out.step B1.out) (HW.out.below B1.out) (by omega)).mono ?_
   rw [H3.out]
   rintro e w4 ⟨rfl, hb4⟩
   have B2 := hD (bel_add' B1.out hb4 B1.out.size)
   have S2 := hD (S1.out.below hb4 S1.out.lt)
   have y1 := S2.out.cell (j := 2) (by simp)
   simp only [gCZ, gCS] at y1
   clear hb4
   go_wp2
   go_ret
   exact ⟨by rw [HP.out]; rfl, B2.out⟩
  have H3 := hD h3
  clear h3
  cases h2 : pairsB s.prep 6 11
  ·have HP := hD (sessB_prep h2)
   have H2 := hD h2
   clear h2
   go_enter Tryz.func91, Tryz.ntmps91
   go_wp2_with fail
   refine (listFits_any _ s.set 9 6 _ (L1.out.step B0.out) (HW.out.below B0.out) (by omega)).mono ?_
   rw [H1.out]
   rintro e w3 ⟨rfl, hb3⟩
   have B1 := hD (bel_add' B0.out hb3 B0.out.size)
   have S1 := hD (S0.out.below hb3 S0.out.lt)
   have y0 := S1.out.cell (j := 3) (by simp)
   simp only [gCZ, gCS] at y0
   clear hb3
   go_wp2_with fail
   refine (listFits_any _ s.sav 9 6 _ (L3.out.step B1.out) (HW.out.below B1.out) (by omega)).mono ?_
   rw [H3.out]
   rintro e w4 ⟨rfl, hb4⟩
   have B2 := hD (bel_add' B1.out hb4 B1.out.size)
   have S2 := hD (S1.out.below hb4 S1.out.lt)
   have y1 := S2.out.cell (j := 2) (by simp)
   simp only [gCZ, gCS] at y1
   clear hb4
   go_wp2_with fail
   refine (listFits_any _ s.prep 11 6 _ (L2.out.step B2.out) (HW.out.below B2.out) (by omega)).mono ?_
   rw [H2.out]
   rintro e w5 ⟨rfl, hb5⟩
   have B3 := hD (bel_add' B2.out hb5 B2.out.size)
   have S3 := hD (S2.out.below hb5 S2.out.lt)
   have y2 := S3.out.cell (j := 4) (by simp)
   simp only [gCZ, gCS] at y2
   clear hb5
   go_wp2
   go_ret
   exact ⟨by rw [HP.out]; rfl, B3.out⟩
  have H2 := hD h2
  clear h2
  cases h4 : pairsB s.wr 100 10
  ·have HP := hD (sessB_wr h4)
   have H4 := hD h4
   clear h4
   go_enter Tryz.func91, Tryz.ntmps91
   go_wp2_with fail
   refine (listFits_any _ s.set 9 6 _ (L1.out.step B0.out) (HW.out.below B0.out) (by omega)).mono ?_
   rw [H1.out]
   rintro e w3 ⟨rfl, hb3⟩
   have B1 := hD (bel_add' B0.out hb3 B0.out.size)
   have S1 := hD (S0.out.below hb3 S0.out.lt)
   have y0 := S1.out.cell (j := 3) (by simp)
   simp only [gCZ, gCS] at y0
   clear hb3
   go_wp2_with fail
   refine (listFits_any _ s.sav 9 6 _ (L3.out.step B1.out) (HW.out.below B1.out) (by omega)).mono ?_
   rw [H3.out]
   rintro e w4 ⟨rfl, hb4⟩
   have B2 := hD (bel_add' B1.out hb4 B1.out.size)
   have S2 := hD (S1.out.below hb4 S1.out.lt)
   have y1 := S2.out.cell (j := 2) (by simp)
   simp only [gCZ, gCS] at y1
   clear hb4
   go_wp2_with fail
   refine (listFits_any _ s.prep 11 6 _ (L2.out.step B2.out) (HW.out.below B2.out) (by omega)).mono ?_
   rw [H2.out]
   rintro e w5 ⟨rfl, hb5⟩
   have B3 := hD (bel_add' B2.out hb5 B2.out.size)
   have S3 := hD (S2.out.below hb5 S2.out.lt)
   have y2 := S3.out.cell (j := 4) (by simp)
   simp only [gCZ, gCS] at y2
   clear hb5
   go_wp2_with fail
   refine (listFits_any _ s.wr 10 100 _ (L4.out.step B3.out) (HW.out.below B3.out) (by omega)).mono ?_
   rw [H4.out]
   rintro e w6 ⟨rfl, hb6⟩
   have B4 := hD (bel_add' B3.out hb6 B3.out.size)
   have S4 := hD (S3.out.below hb6 S3.out.lt)
   have y3 := S4.out.cell (j := 0) (by simp)
   simp only [gCZ, gCS] at y3
   clear hb6
   go_wp2
   go_ret
   exact ⟨by rw [HP.out]; rfl, B4.out⟩
  have H4 := hD h4
  clear h4
  have HP := hD (HG.out H1.out H2.out H3.out H4.out)
  go_enter Tryz.func91, Tryz.ntmps91
  go_wp2_with fail
  refine (listFits_any _ s.set 9 6 _ (L1.out.step B0.out) (HW.out.below B0.out) (by omega)).mono ?_
  rw [H1.out]
  rintro e w3 ⟨rfl, hb3⟩
  have B1 := hD (bel_add' B0.out hb3 B0.out.size)
  have S1 := hD (S0.out.below hb3 S0.out.lt)
  have y0 := S1.out.cell (j := 3) (by simp)
  simp only [gCZ, gCS] at y0
  clear hb3
  go_wp2_with fail
  refine (listFits_any _ s.sav 9 6 _ (L3.out.step B1.out) (HW.out.below B1.out) (by omega)).mono ?_
  rw [H3.out]
  rintro e w4 ⟨rfl, hb4⟩
  have B2 := hD (bel_add' B1.out hb4 B1.out.size)
  have S2 := hD (S1.out.below hb4 S1.out.lt)
  have y1 := S2.out.cell (j := 2) (by simp)
  simp only [gCZ, gCS] at y1
  clear hb4
  go_wp2_with fail
  refine (listFits_any _ s.prep 11 6 _ (L2.out.step B2.out) (HW.out.below B2.out) (by omega)).mono ?_
  rw [H2.out]
  rintro e w5 ⟨rfl, hb5⟩
  have B3 := hD (bel_add' B2.out hb5 B2.out.size)
  have S3 := hD (S2.out.below hb5 S2.out.lt)
  have y2 := S3.out.cell (j := 4) (by simp)
  simp only [gCZ, gCS] at y2
  clear hb5
  go_wp2_with fail
  refine (listFits_any _ s.wr 10 100 _ (L4.out.step B3.out) (HW.out.below B3.out) (by omega)).mono ?_
  rw [H4.out]
  rintro e w6 ⟨rfl, hb6⟩
  have B4 := hD (bel_add' B3.out hb6 B3.out.size)
  have S4 := hD (S3.out.below hb6 S3.out.lt)
  have y3 := S4.out.cell (j := 0) (by simp)
  simp only [gCZ, gCS] at y3
  clear hb6
  go_wp2
  go_ret
  exact ⟨by rw [HP.out]; rfl, B4.out⟩
 ·have e4 : (s.st == 0) = false := beq_eq_false_iff_ne.2 hs0
  clear h5 h6 hst hs1 hs0
  cases h1 : pairsB s.set 6 9
  ·have HP := hD (sessB_set h1)
   have H1 := hD h1
   clear h1
   go_enter Tryz.func91, Tryz.ntmps91
   go_wp2_with fail
   refine (listFits_any _ s.set 9 6 _ (L1.out.step B0.out) (HW.out.below B0.out) (by omega)).mono ?_
   rw [H1.out]
   rintro e w3 ⟨rfl, hb3⟩
   have B1 := hD (bel_add' B0.out hb3 B0.out.size)
   have S1 := hD (S0.out.below hb3 S0.out.lt)
   have y0 := S1.out.cell (j := 3) (by simp)
   simp only [gCZ, gCS] at y0
   clear hb3
   go_wp2
   go_ret
   exact ⟨by rw [HP.out]; rfl, B1.out⟩
  have H1 := hD h1
  clear h1
  cases h3 : pairsB s.sav 6 9
  ·have HP := hD (sessB_sav h3)
   have H3 := hD h3
   clear h3
   go_enter Tryz.func91, Tryz.ntmps91
   go_wp2_with fail
   refine (listFits_any _ s.set 9 6 _ (L1.out.step B0.out) (HW.out.below B0.out) (by omega)).mono ?_
   rw [H1.out]
   rintro e w3 ⟨rfl, hb3⟩
   have B1 := hD (bel_add' B0.out hb3 B0.out.size)
   have S1 := hD (S0.out.below hb3 S0.out.lt)
   have y0 := S1.out.cell (j := 3) (by simp)
   simp only [gCZ, gCS] at y0
   clear hb3
   go_wp2_with fail
   refine (listFits_any _ s.sav 9 6 _ (L3.out.step B1.out) (HW.out.below B1.out) (by omega)).mono ?_
   rw [H3.out]
   rintro e w4 ⟨rfl, hb4⟩
   have B2 := hD (bel_add' B1.out hb4 B1.out.size)
   have S2 := hD (S1.out.below hb4 S1.out.lt)
   have y1 := S2.out.cell (j := 2) (by simp)
   simp only [gCZ, gCS] at y1
   clear hb4
   go_wp2
   go_ret
   exact ⟨by rw [HP.out]; rfl, B2.out⟩
  have H3 := hD h3
  clear h3
  cases h2 : pairsB s.prep 6 11
  ·have HP := hD (sessB_prep h2)
   have H2 := hD h2
   clear h2
   go_enter Tryz.func91, Tryz.ntmps91
   go_wp2_with fail
   refine (listFits_any _ s.set 9 6 _ (L1.out.step B0.out) (HW.out.below B0.out) (by omega)).mono ?_
   rw [H1.out]
   rintro e w3 ⟨rfl, hb3⟩
   have B1 := hD (bel_add' B0.out hb3 B0.out.size)
   have S1 := hD (S0.out.below hb3 S0.out.lt)
   have y0 := S1.out.cell (j := 3) (by simp)
   simp only [gCZ, gCS] at y0
   clear hb3
   go_wp2_with fail
   refine (listFits_any _ s.sav 9 6 _ (L3.out.step B1.out) (HW.out.below B1.out) (by omega)).mono ?_
   rw [H3.out]
   rintro e w4 ⟨rfl, hb4⟩
   have B2 := hD (bel_add' B1.out hb4 B1.out.size)
   have S2 := hD (S1.out.below hb4 S1.out.lt)
   have y1 := S2.out.cell (j := 2) (by simp)
   simp only [gCZ, gCS] at y1
   clear hb4
   go_wp2_with fail
   refine (listFits_any _ s.prep 11 6 _ (L2.out.step B2.out) (HW.out.below B2.out) (by omega)).mono ?_
   rw [H2.out]
   rintro e w5 ⟨rfl, hb5⟩
   have B3 := hD (bel_add' B2.out hb5 B2.out.size)
   have S3 := hD (S2.out.below hb5 S2.out.lt)
   have y2 := S3.out.cell (j := 4) (by simp)
   simp only [gCZ, gCS] at y2
   clear hb5
   go_wp2
   go_ret
   exact ⟨by rw [HP.out]; rfl, B3.out⟩
  have H2 := hD h2
  clear h2
  cases h4 : pairsB s.wr 100 10
  ·have HP := hD (sessB_wr h4)
   have H4 := hD h4
   clear h4
   go_enter Tryz.func91, Tryz.ntmps91
   go_wp2_with fail
   refine (listFits_any _ s.set 9 6 _ (L1.out.step B0.out) (HW.out.below B0.out) (by omega)).mono ?_
   rw [H1.out]
   rintro e w3 ⟨rfl, hb3⟩
   have B1 := hD (bel_add' B0.out hb3 B0.out.size)
   have S1 := hD (S0.out.below hb3 S0.out.lt)
   have y0 := S1.out.cell (j := 3) (by simp)
   simp only [gCZ, gCS] at y0
   clear hb3
   go_wp2_with fail
   refine (listFits_any _ s.sav 9 6 _ (L3.out.step B1.out) (HW.out.below B1.out) (by omega)).mono ?_
   rw [H3.out]
   rintro e w4 ⟨rfl, hb4⟩
   have B2 := hD (bel_add' B1.out hb4 B1.out.size)
   have S2 := hD (S1.out.below hb4 S1.out.lt)
   have y1 := S2.out.cell (j := 2) (by simp)
   simp only [gCZ, gCS] at y1
   clear hb4
   go_wp2_with fail
   refine (listFits_any _ s.prep 11 6 _ (L2.out.step B2.out) (HW.out.below B2.out) (by omega)).mono ?_
   rw [H2.out]
   rintro e w5 ⟨rfl, hb5⟩
   have B3 := hD (bel_add' B2.out hb5 B2.out.size)
   have S3 := hD (S2.out.below hb5 S2.out.lt)
   have y2 := S3.out.cell (j := 4) (by simp)
   simp only [gCZ, gCS] at y2
   clear hb5
   go_wp2_with fail
   refine (listFits_any _ s.wr 10 100 _ (L4.out.step B3.out) (HW.out.below B3.out) (by omega)).mono ?_
   rw [H4.out]
   rintro e w6 ⟨rfl, hb6⟩
   have B4 := hD (bel_add' B3.out hb6 B3.out.size)
   have S4 := hD (S3.out.below hb6 S3.out.lt)
   have y3 := S4.out.cell (j := 0) (by simp)
   simp only [gCZ, gCS] at y3
   clear hb6
   go_wp2
   go_ret
   exact ⟨by rw [HP.out]; rfl, B4.out⟩
  have H4 := hD h4
  clear h4
  have HP := hD (HG.out H1.out H2.out H3.out H4.out)
  go_enter Tryz.func91, Tryz.ntmps91
  go_wp2_with fail
  refine (listFits_any _ s.set 9 6 _ (L1.out.step B0.out) (HW.out.below B0.out) (by omega)).mono ?_
  rw [H1.out]
  rintro e w3 ⟨rfl, hb3⟩
  have B1 := hD (bel_add' B0.out hb3 B0.out.size)
  have S1 := hD (S0.out.below hb3 S0.out.lt)
  have y0 := S1.out.cell (j := 3) (by simp)
  simp only [gCZ, gCS] at y0
  clear hb3
  go_wp2_with fail
  refine (listFits_any _ s.sav 9 6 _ (L3.out.step B1.out) (HW.out.below B1.out) (by omega)).mono ?_
  rw [H3.out]
  rintro e w4 ⟨rfl, hb4⟩
  have B2 := hD (bel_add' B1.out hb4 B1.out.size)
  have S2 := hD (S1.out.below hb4 S1.out.lt)
  have y1 := S2.out.cell (j := 2) (by simp)
  simp only [gCZ, gCS] at y1
  clear hb4
  go_wp2_with fail
  refine (listFits_any _ s.prep 11 6 _ (L2.out.step B2.out) (HW.out.below B2.out) (by omega)).mono ?_
  rw [H2.out]
  rintro e w5 ⟨rfl, hb5⟩
  have B3 := hD (bel_add' B2.out hb5 B2.out.size)
  have S3 := hD (S2.out.below hb5 S2.out.lt)
  have y2 := S3.out.cell (j := 4) (by simp)
  simp only [gCZ, gCS] at y2
  clear hb5
  go_wp2_with fail
  refine (listFits_any _ s.wr 10 100 _ (L4.out.step B3.out) (HW.out.below B3.out) (by omega)).mono ?_
  rw [H4.out]
  rintro e w6 ⟨rfl, hb6⟩
  have B4 := hD (bel_add' B3.out hb6 B3.out.size)
  have S4 := hD (S3.out.below hb6 S3.out.lt)
  have y3 := S4.out.cell (j := 0) (by simp)
  simp only [gCZ, gCS] at y3
  clear hb6
  go_wp2
  go_ret
  exact ⟨by rw [HP.out]; rfl, B4.out⟩
end Go.Proofs.YtpbaobmegomfpabGreatDoor
namespace Go.Proofs.YtpbaobmegomfpabGreatDoor
open Go.RowKit
def checkW (W : Wd) : Int := if worldB W then 0 else 5
theorem checkW_no {W : Wd} (h : worldB W = false) : checkW W = 5 := by unfold checkW; rw [h]; rfl
theorem checkW_ok {W : Wd} (h : worldB W = true) : checkW W = 0 := by unfold checkW; rw [h]; rfl
def ChkRel (w : World) (W : Wd) (r s : Value) (i : Nat) (wr : World) : Prop := (∀ j (hj : j < W.ss.length), j < i → sessB W.ss[j] = true) ∧ AllBox w r s wr ∧ Below w.heap.size w wr
theorem worldB_fit {W : Wd} (h1 : pairsB W.rows 100 10 = true) (h2 : W.ss.length ≤ 8) (h3 : ∀ i (hi : i < W.ss.length), sessB W.ss[i] = true) : worldB W = (cntOk W && decide ((allL W).length ≤ 100)) := by
 have hall : W.ss.all sessB = true := by
  rw [List.all_eq_true]; intro s hs
  obtain ⟨i, hi, rfl⟩ := List.getElem_of_mem hs
  exact h3 i hi
 rw [cntOk_apart (fun i hi => (pairsB_rising (sessB_iff.1 (h3 i hi)).wr).1)]
 unfold worldB
 rw [h1, decide_eq_true h2, hall]; rfl
set_option maxHeartbeats 4000000 in
theorem backCheck_any (r s : Value) (W : Wd) (w : World) (hW : Wld w w.heap.size r s W) (hWo : Words w) :
  Calls Tryz.prog 62 #[.agg #[r, s]] w fun e w' => e = .returned (.int .i64 (checkW W)) ∧ Below w.heap.size w w' := by
 have HWW := hD hW
 have HWo := hD hWo
 obtain ⟨hr, hs⟩ := hW
 obtain ⟨A, c, rfl, hc⟩ := hs.form
 obtain ⟨D, d, rfl, hd⟩ := hr.form
 have hby := hs.bytes
 have HS := hD hs
 have HR := hD hr
 clear hs hr hWo
 have b0 : Below w.heap.size w (w.alloc (.cells #[.slice D W.rows.length d, .slice A W.ss.length c] 39)) := (Below.refl _ _).alloc (nL _) _
 have HX := hD (RowTo.whole w #[.slice D W.rows.length d, .slice A W.ss.length c] 39)
 by_cases h8 : W.ss.length ≤ 8
 case neg =>
  have HP := hD (checkW_no (worldB_many h8))
  have hd8 : decide ((8 : Int) < (W.ss.length : Int)) = true := decide_eq_true (by omega)
  have hd8' : decide (8 < W.ss.length) = true := decide_eq_true (by omega)
  go_enter Tryz.func62, Tryz.ntmps62
  go_wp2
  go_ret
  exact ⟨by rw [HP.out]; rfl, b0⟩
 have hd8 : decide ((8 : Int) < (W.ss.length : Int)) = false := decide_eq_false (by omega)
 have hd8' : decide (8 < W.ss.length) = false := decide_eq_false (by omega)
 cases hp : pairsB W.rows 100 10
 ·have HP := hD (checkW_no (worldB_rows hp))
  have HPB := hD hp
  clear hp
  go_enter Tryz.func62, Tryz.ntmps62
  go_wp2_with fail
  refine (listFits_any _ W.rows 10 100 _ (HR.out.step b0) (HWo.out.below b0) (by omega)).mono ?_
  rw [HPB.out]
  rintro e w1 ⟨rfl, hb1⟩
  go_wp2
  go_ret
  exact ⟨by rw [HP.out]; rfl, bel_add' b0 hb1 b0.size⟩
 have HPB := hD hp
 clear hp
 go_enter Tryz.func62, Tryz.ntmps62
 go_wp2_with fail
 refine (listFits_any _ W.rows 10 100 _ (HR.out.step b0) (HWo.out.below b0) (by omega)).mono ?_
 rw [HPB.out]
 rintro e w1 ⟨rfl, hb1⟩
 have HX1 := HX.out.below hb1 HX.out.lt
 have x1 := HX1.cell (j := 1) (by simp)
 simp only [gCZ, gCS] at x1
 have HXX := hD HX1
 have HBB := hD (bel_add' b0 hb1 b0.size)
 clear HX1 HX hb1
 go_wp2
 clear x1
 go_loopw [18] (fun i wr => ∃ k : Nat, k ≤ W.ss.length ∧ i = .int .i64 k ∧ ChkRel w W (.slice D W.rows.length d) (.slice A W.ss.length c) k wr) (fun i _ => W.ss.length - (intOf i).toNat)
 case atStart => exact ⟨0, by omega, rfl, fun j hj h => by omega, HXX.out, HBB.out⟩
 case round =>
  clear HXX HBB b0
  obtain ⟨i, hi, rfl, hok, hbox, bel⟩ := hrel
  have x0 := hbox.cell (j := 0) (by simp)
  have x1 := hbox.cell (j := 1) (by simp)
  simp only [gCZ, gCS] at x0 x1
  have hxl := hbox.lt
  have HOK := hD hok
  have HX := hD hbox
  have HB := hD bel
  clear hok hbox bel
  by_cases hlt : i < W.ss.length
  ·obtain ⟨b, off, v1, v2, v3, v4, rfl, hb, hses⟩ := HS.out.pt hlt
   have HW1 := hD (fun h => worldB_sess (W := W) hlt h)
   have HOK1 := hD (fun (h : sessB W.ss[i] = true) => (fun j hj hji => if e : j = i then by subst e; exact h else HOK.out j hj (by omega) : ∀ j (hj : j < W.ss.length), j < i + 1 → sessB W.ss[j] = true))
   generalize hsk : W.ss[i] = s at *
   obtain ⟨d0, d1, d2, d3, d4, l1, l2, l3, l4⟩ := hses.keep (w' := wr) hb (nL _) fun p hp => HB.out.cell hp
   obtain ⟨A1, c1, rfl, _⟩ := l1.form
   obtain ⟨A2, c2, rfl, _⟩ := l2.form
   obtain ⟨A3, c3, rfl, _⟩ := l3.form
   obtain ⟨A4, c4, rfl, _⟩ := l4.form
   have HL := hD hses
   clear l1 l2 l3 l4 hses hsk
   have B0 := hD (HB.out.alloc HB.out.size (.cells #[.int .i64 s.st, .slice A1 s.set.length c1, .slice A2 s.prep.length c2, .slice A3 s.sav.length c3, .slice A4 s.wr.length c4] 115))
   have X0 := hD (RowTo.alloc HX.out (.cells #[.int .i64 s.st, .slice A1 s.set.length c1, .slice A2 s.prep.length c2, .slice A3 s.sav.length c3, .slice A4 s.wr.length c4] 115))
   cases hb : sessB s
   ·have HP := hD (checkW_no (HW1.out hb))
    have HQ := hD hb
    clear hb
    go_wp2_with fail
    refine (sessionFits_any s _ _ _ _ _ (HL.out.l1.step B0.out) (HL.out.l2.step B0.out) (HL.out.l3.step B0.out) (HL.out.l4.step B0.out) (HWo.out.below B0.out)).mono ?_
    rw [HQ.out]
    rintro e w2 ⟨rfl, hb2⟩
    go_wp2
    go_ret
    exact ⟨by rw [HP.out]; rfl, bel_add' B0.out hb2 B0.out.size⟩
   ·have HT := hD (HOK1.out hb)
    have HQ := hD hb
    clear hb
    go_wp2_with fail
    refine (sessionFits_any s _ _ _ _ _ (HL.out.l1.step B0.out) (HL.out.l2.step B0.out) (HL.out.l3.step B0.out) (HL.out.l4.step B0.out) (HWo.out.below B0.out)).mono ?_
    rw [HQ.out]
    rintro e w2 ⟨rfl, hb2⟩
    have HB2 := hD (bel_add' B0.out hb2 B0.out.size)
    have HX2 := hD (X0.out.below hb2 X0.out.lt)
    clear hb2
    go_wp2
    go_roundw
    case rel => exact ⟨i + 1, by omega, by go_num, HT.out, HX2.out, HB2.out⟩
    case measure => simp [intOf]; omega
  ·have hall : ∀ j (hj : j < W.ss.length), sessB W.ss[j] = true := fun j hj => HOK.out j hj (by omega)
   have HL := hD (worldB_fit HPB.out h8 hall)
   have hpr := pairsB_rising HPB.out
   have hwr : ∀ j (hj : j < W.ss.length), W.ss[j].wr.length ≤ 100 := fun j hj => (pairsB_rising (sessB_iff.1 (hall j hj)).wr).2.1
   have HF := hD (fun (w9 : World) (h9 : Wld w9 w9.heap.size (.slice D W.rows.length d) (.slice A W.ss.length c) W) => rowsFit_any _ _ W w9 h9 hpr.2.1 hpr.1 h8 hwr)
   clear hall hpr hwr
   cases hf : (cntOk W && decide ((allL W).length ≤ 100))
   ·have HP := hD (checkW_no (HL.out.trans hf))
    have HQ := hD hf
    clear hf
    go_wp2_with fail
    refine (HF.out _ (HWW.out.step HB.out)).mono ?_
    rw [HQ.out]
    rintro e w2 ⟨rfl, hb2⟩
    go_wp2
    go_ret
    exact ⟨by rw [HP.out]; rfl, bel_add' HB.out hb2 HB.out.size⟩
   ·have HP := hD (checkW_ok (HL.out.trans hf))
    have HQ := hD hf
    clear hf
    go_wp2_with fail
    refine (HF.out _ (HWW.out.step HB.out)).mono ?_
    rw [HQ.out]
    rintro e w2 ⟨rfl, hb2⟩
    go_wp2
    go_ret
    exact ⟨by rw [HP.out]; rfl, bel_add' HB.out hb2 HB.out.size⟩
end Go.Proofs.YtpbaobmegomfpabGreatDoor
namespace Go.Proofs.YtpbaobmegomfpabGreatDoor
open Go.RowKit
set_option maxHeartbeats 2000000 in
theorem checkDo_any (r s : Value) (W : Wd) (i k : Int) (key val : ByteArray) (w : World) (hW : Wld w w.heap.size r s W) (hWo : Words w) (hkz : key.size ≤ maxLen) (hvz : val.size ≤ maxLen) :
  Calls Tryz.prog 43 #[.agg #[r, s], .int .i64 i, .agg #[.int .i64 k, .string key, .string val]] w fun e w' => e = .returned (.int .i64 (doE W i k key val)) ∧ Below w.heap.size w w' := by
 obtain ⟨A, c, rfl, hc⟩ := hW.sess.form
 obtain ⟨D, d, rfl, hd⟩ := hW.rows.form
 have b0 : Below w.heap.size w ((w.alloc (.cells #[.slice D W.rows.length d, .slice A W.ss.length c] 39)).alloc (.cells #[.int .i64 k, .string key, .string val] 41)) := ((Below.refl _ _).alloc (nL _) _).alloc (by simp) _
 have X0 : RowTo ((w.alloc (.cells #[.slice D W.rows.length d, .slice A W.ss.length c] 39)).alloc (.cells #[.int .i64 k, .string key, .string val] 41)) w.heap.size 39 2 [.slice D W.rows.length d, .slice A W.ss.length c] := (RowTo.whole w #[.slice D W.rows.length d, .slice A W.ss.length c] 39).alloc _
 have Y0 : RowTo ((w.alloc (.cells #[.slice D W.rows.length d, .slice A W.ss.length c] 39)).alloc (.cells #[.int .i64 k, .string key, .string val] 41)) (w.heap.size + 1) 41 3 [.int .i64 k, .string key, .string val] := by
  have := RowTo.whole (w.alloc (.cells #[.slice D W.rows.length d, .slice A W.ss.length c] 39)) #[.int .i64 k, .string key, .string val] 41
  simpa using this
 have HC := hD (backCheck_any _ _ W _ (hW.step b0) (hWo.below b0))
 have HWo := hD hWo
 have B0 := hD b0
 have HX0 := hD X0
 have HY0 := hD Y0
 clear hW hWo b0 X0 Y0
 cases hb : worldB W
 ·have HD := hD (show doE W i k key val = 5 by unfold doE; rw [if_pos hb])
  have HB := hD (checkW_no hb)
  clear hb
  go_enter Tryz.func43, Tryz.ntmps43
  go_wp2_with fail
  refine HC.out.mono ?_
  rw [HB.out]
  rintro e w1 ⟨rfl, hb1⟩
  have B1 := hD (bel_add' B0.out hb1 B0.out.size)
  clear hb1
  go_wp2
  go_ret
  exact ⟨by rw [HD.out]; rfl, B1.out⟩
 have HB := hD (checkW_ok hb)
 have hcase : (i < 0 ∧ doE W i k key val = 6) ∨ (0 ≤ i ∧ (W.ss.length : Int) ≤ i ∧ doE W i k key val = 6) ∨ (0 ≤ i ∧ i < (W.ss.length : Int) ∧ doE W i k key val = checkE k key val) := by
  unfold doE
  rw [if_neg (by rw [hb]; simp)]
  by_cases h1 : i < 0
  ·left; exact ⟨h1, if_pos (.inl h1)⟩
  ·right
   by_cases h2 : (W.ss.length : Int) ≤ i
   ·left; exact ⟨by omega, h2, if_pos (.inr h2)⟩
   ·right; exact ⟨by omega, by omega, if_neg (by omega)⟩
 clear hb
 rcases hcase with ⟨h1, hd⟩ | ⟨h1, h2, hd⟩ | ⟨h1, h2, hd⟩
 ·have HD := hD hd
  have t1 : decide (i < 0) = true := decide_eq_true h1
  clear hd
  go_enter Tryz.func43, Tryz.ntmps43
  go_wp2_with fail
  refine HC.out.mono ?_
  rw [HB.out]
  rintro e w1 ⟨rfl, hb1⟩
  have B1 := hD (bel_add' B0.out hb1 B0.out.size)
  have X1 := HX0.out.below hb1 HX0.out.lt
  have c1 := X1.cell (j := 1) (by simp)
  simp only [gCZ, gCS] at c1
  clear hb1 X1
  go_wp2
  go_ret
  exact ⟨by rw [HD.out]; rfl, B1.out⟩
 ·have HD := hD hd
  have t1 : decide (i < 0) = false := decide_eq_false (by omega)
  have t2 : decide ((W.ss.length : Int) ≤ i) = true := decide_eq_true h2
  clear hd
  go_enter Tryz.func43, Tryz.ntmps43
  go_wp2_with fail
  refine HC.out.mono ?_
  rw [HB.out]
  rintro e w1 ⟨rfl, hb1⟩
  have B1 := hD (bel_add' B0.out hb1 B0.out.size)
  have X1 := HX0.out.below hb1 HX0.out.lt
  have c1 := X1.cell (j := 1) (by simp)
  simp only [gCZ, gCS] at c1
  clear hb1 X1
  go_wp2
  go_ret
  exact ⟨by rw [HD.out]; rfl, B1.out⟩
 ·have HD := hD hd
  have t1 : decide (i < 0) = false := decide_eq_false (by omega)
  have t2 : decide ((W.ss.length : Int) ≤ i) = false := decide_eq_false (by omega)
  clear hd
  go_enter Tryz.func43, Tryz.ntmps43
  go_wp2_with fail
  refine HC.out.mono ?_
  rw [HB.out]
  rintro e w1 ⟨rfl, hb1⟩
  have B1 := hD (bel_add' B0.out hb1 B0.out.size)
  have X1 := HX0.out.below hb1 HX0.out.lt
  have c1 := X1.cell (j := 1) (by simp)
  have Y1 := HY0.out.below hb1 HY0.out.lt
  have y0 := Y1.cell (j := 0) (by simp)
  have y1 := Y1.cell (j := 1) (by simp)
  have y2 := Y1.cell (j := 2) (by simp)
  simp only [gCZ, gCS] at c1 y0 y1 y2
  clear hb1 X1 Y1
  go_wp2_with fail
  refine (check_any k key val _ hkz hvz (HWo.out.below B1.out)).mono ?_
  rintro e w2 ⟨rfl, hb2⟩
  have B2 := hD (bel_add' B1.out hb2 B1.out.size)
  clear hb2
  go_wp2
  go_ret
  exact ⟨by rw [HD.out]; rfl, B2.out⟩
end Go.Proofs.YtpbaobmegomfpabGreatDoor
namespace Go.Proofs.YtpbaobmegomfpabGreatDoor
open Go.RowKit
theorem sess_info : (Tryz.prog.info? 115).map (fun i => (i.zero, i.size, i.bytes)) = some (some (.agg #[.int .i64 0, .slice none 0 0, .slice none 0 0, .slice none 0 0, .slice none 0 0]), 5, 104) := by kernel_rfl
theorem make_sess (n : Nat) (h : n * 104 ≤ 140737488351232) (w : World) :
  (Instr.makeSlice 37 (.int .i64 (n : Int)) (.int .i64 (n : Int))).run Tryz.prog w = .ok (.slice (some ⟨w.heap.size, 0, none⟩) n n) (w.alloc (.cells (madeCells (Value.agg #[.int .i64 0, .slice none 0 0, .slice none 0 0, .slice none 0 0, .slice none 0 0]).cells (n * 5)) 115)) := by
 obtain ⟨i0, hi, hz0, hz1, hz2⟩ := info_parts sess_info
 have hr := run_make (P := Tryz.prog) w 37 115 i0 _ Tryz.underlying37 hi hz0 .i64 .i64 (n : Int) (n : Int) (by omega) (Int.le_refl _) (by rw [hz2]; omega) (by omega)
 rw [hz1] at hr
 simpa only [Int.toNat_natCast] using hr
structure OwnW (w : World) (base gR S : Nat) (G : Nat → Nat → Nat) (W : Wd) : Prop where
 rows : RowTo w gR 60 (W.rows.length * 2) (flat W.rows)
 sess : OwnS w base S W.ss.length G W.ss W.ss.length
 loR : base ≤ gR
 loS : base ≤ S
 neS : gR ≠ S
 neG : ∀ i j, i < W.ss.length → j < 4 → G i j ≠ gR
def CopyPost (w : World) (W : Wd) (e : Ending) (w' : World) : Prop :=
 ∃ gR S G, e = .returned (.agg #[sl gR W.rows.length, sl S W.ss.length]) ∧ OwnW w' w.heap.size gR S G W ∧ Below w.heap.size w w'
theorem cell_set5' {w : World} {b R i o : Nat} {u a0 a1 a2 a3 a4 : Value} (h : w.cell? ⟨b, i, none⟩ = some u) (hne : b ≠ R) :
  (((((w.setCell ⟨R, o, none⟩ a0).setCell ⟨R, o + 1, none⟩ a1).setCell ⟨R, o + 2, none⟩ a2).setCell ⟨R, o + 3, none⟩ a3).setCell ⟨R, o + 4, none⟩ a4).cell? ⟨b, i, none⟩ = some u :=
 (set5_cell (p := ⟨b, i, none⟩) hne).trans h
def CopyRel (w : World) (W : Wd) (r s : Value) (k : Nat) (wr : World) : Prop :=
 ∃ G, OwnS wr (w.heap.size + 1 + 1) (w.heap.size + 1 + 1) W.ss.length G W.ss k ∧ RowTo wr w.heap.size 39 2 [r, s] ∧ RowTo wr (w.heap.size + 1) 39 2 [] ∧ Below w.heap.size w wr
set_option maxHeartbeats 4000000 in
theorem copy_any (r s : Value) (W : Wd) (w : World) (hW : Wld w w.heap.size r s W) :
  Calls Tryz.prog 44 #[.agg #[r, s]] w (CopyPost w W) := by
 obtain ⟨hr, hs⟩ := hW
 obtain ⟨A, c, rfl, hc⟩ := hs.form
 obtain ⟨A', c', rfl, hc'⟩ := hr.form
 have hby := hs.bytes
 have hmk := make_sess W.ss.length hby
 have HS := hD hs
 have HR := hD hr
 clear hs hr
 go_enter Tryz.func44, Tryz.ntmps44
 go_wp2
 clear hmk
 go_loopw [13] (fun i wr => ∃ k : Nat, k ≤ W.ss.length ∧ i = .int .i64 k ∧ CopyRel w W (.slice A' W.rows.length c') (.slice A W.ss.length c) k wr) (fun i _ => W.ss.length - (intOf i).toNat)
 case atStart =>
  refine ⟨0, by omega, rfl, fun _ _ => 0, ⟨?_, fun i _ h => absurd h (by omega), fun i j _ h => absurd h (by omega), fun i j _ h => absurd h (by omega), fun i j h => absurd h (by omega), fun i j h => absurd h (by omega), fun i j i' j' h => absurd h (by omega)⟩, ?_, ?_, ?_⟩
  ·have := RowTo.new ((w.alloc (.cells #[.slice A' W.rows.length c', .slice A W.ss.length c] 39)).alloc (.cells #[.slice none 0 0, .slice none 0 0] 39)) (madeCells #[.int .i64 0, .slice none 0 0, .slice none 0 0, .slice none 0 0, .slice none 0 0] (W.ss.length * 5)) 115
   rw [madeCells_size] at this
   simpa using this
  ·exact ((RowTo.whole w #[.slice A' W.rows.length c', .slice A W.ss.length c] 39).alloc _).alloc _
  ·have := (RowTo.new (w.alloc (.cells #[.slice A' W.rows.length c', .slice A W.ss.length c] 39)) #[.slice none 0 0, .slice none 0 0] 39).alloc (.cells (madeCells #[.int .i64 0, .slice none 0 0, .slice none 0 0, .slice none 0 0, .slice none 0 0] (W.ss.length * 5)) 115)
   simpa using this
  ·repeat' (first | exact Below.refl _ _ | assumption | with_reducible refine below_drewN ?_ _ | with_reducible refine Below.drew ?_ | with_reducible refine Below.setCell ?_ ?_ _ | with_reducible refine Below.alloc ?_ ?_ _ | (simp; done) | (simp; omega))
 case round =>
  obtain ⟨k, hk, rfl, G, hown, hbox, hres, bel⟩ := hrel
  by_cases hlt : k < W.ss.length
  ·obtain ⟨b, off, v1, v2, v3, v4, rfl, hb, hses⟩ := HS.out.pt hlt
   generalize hsk : W.ss[k] = s at *
   have HK := hD hsk
   clear hsk
   obtain ⟨d0, d1, d2, d3, d4, l1, l2, l3, l4⟩ := hses.keep (w' := wr) hb (nL _) fun p hp => bel.cell hp
   obtain ⟨A1, c1, rfl, _⟩ := l1.form
   obtain ⟨A2, c2, rfl, _⟩ := l2.form
   obtain ⟨A3, c3, rfl, _⟩ := l3.form
   obtain ⟨A4, c4, rfl, _⟩ := l4.form
   have L1 := hD hses.l1
   have L2 := hD hses.l2
   have L3 := hD hses.l3
   have L4 := hD hses.l4
   have hwlt := hown.blk.lt
   have HO := hD hown
   have HX := hD hbox
   have HY := hD hres
   have HB := hD bel
   clear hown hbox hres bel hses l1 l2 l3 l4
   go_wp2
   clear d0 d1 d2 d3 d4
   have e0 := cell_neu wr #[.int .i64 s.st, (.slice A1 s.set.length c1), (.slice A2 s.prep.length c2), (.slice A3 s.sav.length c3), (.slice A4 s.wr.length c4)] 115 0 (by simp)
   have e1 := cell_neu wr #[.int .i64 s.st, (.slice A1 s.set.length c1), (.slice A2 s.prep.length c2), (.slice A3 s.sav.length c3), (.slice A4 s.wr.length c4)] 115 1 (by simp)
   have e2 := cell_neu wr #[.int .i64 s.st, (.slice A1 s.set.length c1), (.slice A2 s.prep.length c2), (.slice A3 s.sav.length c3), (.slice A4 s.wr.length c4)] 115 2 (by simp)
   have e3 := cell_neu wr #[.int .i64 s.st, (.slice A1 s.set.length c1), (.slice A2 s.prep.length c2), (.slice A3 s.sav.length c3), (.slice A4 s.wr.length c4)] 115 3 (by simp)
   have e4 := cell_neu wr #[.int .i64 s.st, (.slice A1 s.set.length c1), (.slice A2 s.prep.length c2), (.slice A3 s.sav.length c3), (.slice A4 s.wr.length c4)] 115 4 (by simp)
   simp only [gTA, gCZ, gCS] at e0 e1 e2 e3 e4
   have R0 := hD (HO.out.blk.alloc (.cells #[.int .i64 s.st, (.slice A1 s.set.length c1), (.slice A2 s.prep.length c2), (.slice A3 s.sav.length c3), (.slice A4 s.wr.length c4)] 115))
   have A0 := hD ((Below.refl wr.heap.size wr).alloc (nL _) (.cells #[.int .i64 s.st, (.slice A1 s.set.length c1), (.slice A2 s.prep.length c2), (.slice A3 s.sav.length c3), (.slice A4 s.wr.length c4)] 115))
   have B0 := hD (HB.out.alloc HB.out.size (.cells #[.int .i64 s.st, (.slice A1 s.set.length c1), (.slice A2 s.prep.length c2), (.slice A3 s.sav.length c3), (.slice A4 s.wr.length c4)] 115))
   have hz0 : wr.heap.size < (wr.alloc (.cells #[.int .i64 s.st, (.slice A1 s.set.length c1), (.slice A2 s.prep.length c2), (.slice A3 s.sav.length c3), (.slice A4 s.wr.length c4)] 115)).heap.size := by simp
   generalize wr.alloc (.cells #[.int .i64 s.st, (.slice A1 s.set.length c1), (.slice A2 s.prep.length c2), (.slice A3 s.sav.length c3), (.slice A4 s.wr.length c4)] 115) = W0 at *
   have kb := Below.refl W0.heap.size W0
   have kbw := B0.out
   have hz1 : w.heap.size + 1 + 1 < W0.heap.size := by omega
   have hne : wr.heap.size ≠ w.heap.size + 1 + 1 := by omega
   have dS0 := hD (show W0.drew.cell? ⟨wr.heap.size, 0, none⟩ = some (.int .i64 s.st) ∧ W0.drew.cell? ⟨wr.heap.size, 1, none⟩ = some (.slice A1 s.set.length c1) ∧ W0.drew.cell? ⟨wr.heap.size, 2, none⟩ = some (.slice A2 s.prep.length c2) ∧ W0.drew.cell? ⟨wr.heap.size, 3, none⟩ = some (.slice A3 s.sav.length c3) ∧ W0.drew.cell? ⟨wr.heap.size, 4, none⟩ = some (.slice A4 s.wr.length c4) from ⟨e0, e1, e2, e3, e4⟩)
   go_region_held3 (fun wx => wx.cell? ⟨wr.heap.size, 0, none⟩ = some (.int .i64 s.st) ∧ wx.cell? ⟨wr.heap.size, 1, none⟩ = some (.slice A1 s.set.length c1) ∧ wx.cell? ⟨wr.heap.size, 2, none⟩ = some (.slice A2 s.prep.length c2) ∧ wx.cell? ⟨wr.heap.size, 3, none⟩ = some (.slice A3 s.sav.length c3) ∧ wx.cell? ⟨wr.heap.size, 4, none⟩ = some (.slice A4 s.wr.length c4))
    (first
     | with_reducible exact ⟨e0, e1, e2, e3, e4⟩
     | with_reducible exact dS0.out
     | with_reducible exact ⟨cell_set5' ((kb.cell (p := ⟨wr.heap.size, 0, none⟩) hz0).trans e0) hne, cell_set5' ((kb.cell (p := ⟨wr.heap.size, 1, none⟩) hz0).trans e1) hne, cell_set5' ((kb.cell (p := ⟨wr.heap.size, 2, none⟩) hz0).trans e2) hne, cell_set5' ((kb.cell (p := ⟨wr.heap.size, 3, none⟩) hz0).trans e3) hne, cell_set5' ((kb.cell (p := ⟨wr.heap.size, 4, none⟩) hz0).trans e4) hne⟩
     | with_reducible exact ⟨(kb.cell (p := ⟨wr.heap.size, 0, none⟩) hz0).trans e0, (kb.cell (p := ⟨wr.heap.size, 1, none⟩) hz0).trans e1, (kb.cell (p := ⟨wr.heap.size, 2, none⟩) hz0).trans e2, (kb.cell (p := ⟨wr.heap.size, 3, none⟩) hz0).trans e3, (kb.cell (p := ⟨wr.heap.size, 4, none⟩) hz0).trans e4⟩)
    (first
     | (
      go_at_call_of 63 (Value.slice A1 s.set.length c1)
      (with_reducible refine (copyPairs_any (.slice A1 s.set.length c1) s.set _ ?_).mono ?_)
      case refine_1 => first | exact L1.out.step kbw | exact L1.out.step kbw.drew | exact L1.out.step (below_drewN kbw _)
      rintro e w3 ⟨g0, rfl, q0, r0, hy⟩
      have kb : Below W0.heap.size W0 w3 := by first | exact bel_add kb hy kb.size | exact bel_addN kb hy kb.size
      have kbw : Below w.heap.size w w3 := bel_add B0.out kb B0.out.size
      have q0 : W0.heap.size ≤ g0 := q0)
     | (
      go_at_call_of 63 (Value.slice A2 s.prep.length c2)
      (with_reducible refine (copyPairs_any (.slice A2 s.prep.length c2) s.prep _ ?_).mono ?_)
      case refine_1 => first | exact L2.out.step kbw | exact L2.out.step kbw.drew | exact L2.out.step (below_drewN kbw _)
      rintro e w3 ⟨g1, rfl, q1, r1, hy⟩
      have kb : Below W0.heap.size W0 w3 := by first | exact bel_add kb hy kb.size | exact bel_addN kb hy kb.size
      have kbw : Below w.heap.size w w3 := bel_add B0.out kb B0.out.size
      have q1 : g0 < g1 := Nat.lt_of_lt_of_le r0.lt q1
      have r0 := r0.below hy r0.lt)
     | (
      go_at_call_of 63 (Value.slice A3 s.sav.length c3)
      (with_reducible refine (copyPairs_any (.slice A3 s.sav.length c3) s.sav _ ?_).mono ?_)
      case refine_1 => first | exact L3.out.step kbw | exact L3.out.step kbw.drew | exact L3.out.step (below_drewN kbw _)
      rintro e w3 ⟨g2, rfl, q2, r2, hy⟩
      have kb : Below W0.heap.size W0 w3 := by first | exact bel_add kb hy kb.size | exact bel_addN kb hy kb.size
      have kbw : Below w.heap.size w w3 := bel_add B0.out kb B0.out.size
      have q2 : g1 < g2 := Nat.lt_of_lt_of_le r1.lt q2
      have r0 := r0.below hy r0.lt
      have r1 := r1.below hy r1.lt)
     | (
      go_at_call_of 63 (Value.slice A4 s.wr.length c4)
      (with_reducible refine (copyPairs_any (.slice A4 s.wr.length c4) s.wr _ ?_).mono ?_)
      case refine_1 => first | exact L4.out.step kbw | exact L4.out.step kbw.drew | exact L4.out.step (below_drewN kbw _)
      rintro e w3 ⟨g3, rfl, q3, r3, hy⟩
      have kb : Below W0.heap.size W0 w3 := by first | exact bel_add kb hy kb.size | exact bel_addN kb hy kb.size
      have kbw : Below w.heap.size w w3 := bel_add B0.out kb B0.out.size
      have q3 : g2 < g3 := Nat.lt_of_lt_of_le r2.lt q3
      have r0 := r0.below hy r0.lt
      have r1 := r1.below hy r1.lt
      have r2 := r2.below hy r2.lt
      have Rb := hD (R0.out.below kb hz1)
      obtain ⟨u0, f0⟩ := Rb.out.any (j := k * 5) (by omega)
      obtain ⟨u1, f1⟩ := Rb.out.any (j := k * 5 + 1) (by omega)
      obtain ⟨u2, f2⟩ := Rb.out.any (j := k * 5 + 2) (by omega)
      obtain ⟨u3, f3⟩ := Rb.out.any (j := k * 5 + 3) (by omega)
      obtain ⟨u4, f4⟩ := Rb.out.any (j := k * 5 + 4) (by omega)
      have y0 := Rb.out.frozen (k * 5)
      have y1 := Rb.out.frozen (k * 5 + 1)
      have y2 := Rb.out.frozen (k * 5 + 2)
      have y3 := Rb.out.frozen (k * 5 + 3)
      have y4 := Rb.out.frozen (k * 5 + 4)))
   go_wp2
   go_roundw
   case rel =>
    refine ⟨k + 1, by omega, by go_num, (fun i j => if i = k then pick4 g0 g1 g2 g3 j else G i j), ?_, ?_, ?_, ?_⟩
    ·have hk' := HK.out
     subst hk'
     exact HO.out.step hlt rfl (by omega) (A0.out.trans (kb.mono (by omega))) r0 r1 r2 r3 (by omega) q1 q2 q3
    ·have := (HX.out.below (A0.out.trans (kb.mono (by omega))) HX.out.lt)
     exact set5_other this (by omega)
    ·have := (HY.out.below (A0.out.trans (kb.mono (by omega))) HY.out.lt)
     exact set5_other this (by omega)
    ·exact set5_below kbw (by omega)
   case measure => simp [intOf]; omega
  ·obtain rfl : k = W.ss.length := by omega
   have x0 := hbox.cell (j := 0) (by simp)
   have x1 := hbox.cell (j := 1) (by simp)
   simp only [gCZ, gCS] at x0 x1
   have HO := hD hown
   have HY := hD hres
   have HB := hD bel
   have hwlt := hown.blk.lt
   clear hown hbox hres bel
   go_wp2_with fail
   refine (copyPairs_any _ W.rows _ (HR.out.step HB.out)).mono ?_
   rintro e w3 ⟨g, rfl, q, rr, hy⟩
   have Y3 := HY.out.below hy HY.out.lt
   obtain ⟨u0, f0⟩ := Y3.any (j := 0) (by omega)
   obtain ⟨u1, f1⟩ := Y3.any (j := 1) (by omega)
   have y0 := Y3.frozen 0
   have y1 := Y3.frozen 1
   have HR3 := hD rr
   have HY3 := hD Y3
   clear rr Y3
   go_wp2
   refine bodyPost_ret (v := .agg #[.slice (some ⟨g, 0, none⟩) W.rows.length W.rows.length, .slice (some ⟨w.heap.size + 1 + 1, 0, none⟩) W.ss.length W.ss.length]) (by simp [results, Tryz.results44, go_sem, f0, f1]) rfl ?_
   have O3 := HO.out.kept (nL _) hy
   have hne : w.heap.size + 1 ≠ g := by omega
   refine ⟨g, w.heap.size + 1 + 1, G, rfl, ⟨(HR3.out.other hne _).other hne _, ?_, by omega, by omega, by omega, fun i j hi hj => ?_⟩, ?_⟩
   ·have hS := O3.blk.lt
    have hw : ∀ p : Addr, p.block ≠ w.heap.size + 1 → ((w3.setCell ⟨w.heap.size + 1, 0, none⟩ (.slice (some ⟨g, 0, none⟩) W.rows.length W.rows.length)).setCell ⟨w.heap.size + 1, 1, none⟩ (.slice (some ⟨w.heap.size + 1 + 1, 0, none⟩) W.ss.length W.ss.length)).cell? p = w3.cell? p := fun p hp => by
     rw [World.cell?_setCell_other _ _ _ _ (fun e => hp (by rw [← e])), World.cell?_setCell_other _ _ _ _ (fun e => hp (by rw [← e]))]
    have hG : ∀ i j, i < W.ss.length → j < 4 → w.heap.size + 1 ≠ G i j := fun i j hi hj e => by have := HO.out.lo i j hi hj; omega
    refine ⟨(O3.blk.other (by simp) _).other (by simp) _, fun i hi hik => (hw _ (by simp)).trans (O3.st i hi hik), fun i j hi hik hj => (hw _ (by simp)).trans (O3.cs i j hi hik hj), fun i j hi hik hj => ((O3.ls i j hi hik hj).other (hG i j hik hj) _).other (hG i j hik hj) _, fun i j hi hj => by have := O3.lo i j hi hj; omega, O3.ne, O3.inj⟩
   ·have := (HO.out.ls i j hi hi hj).lt
    omega
   ·exact ((bel_add HB.out hy HB.out.size).setCell (by simp) _).setCell (by simp) _
end Go.Proofs.YtpbaobmegomfpabGreatDoor
namespace Go.Proofs.YtpbaobmegomfpabGreatDoor
open Go.RowKit
theorem OwnW.wld {w : World} {base gR S : Nat} {G : Nat → Nat → Nat} {W : Wd} (h : OwnW w base gR S G W) {w0 : World} {r s : Value} {B0 : Nat} (h0 : Wld w0 B0 r s W) : Wld w w.heap.size (sl gR W.rows.length) (sl S W.ss.length) W := by
 refine ⟨h.rows.lst (nL _) h.rows.lt h0.rows.bytes h0.rows.sizes, ⟨⟨_, _, rfl, nL _⟩, h0.sess.bytes, fun hn => ⟨S, 0, W.ss.length, rfl, h.sess.blk.lt, fun i hi => ?_⟩⟩⟩
 obtain ⟨b, off, c, e, hb, hc⟩ := h0.sess.cells hn
 obtain ⟨v1, v2, v3, v4, hs⟩ := hc i hi
 have hc0 := h.sess.st i hi hi
 have hc1 := h.sess.cs i 0 hi hi (by omega)
 have hc2 := h.sess.cs i 1 hi hi (by omega)
 have hc3 := h.sess.cs i 2 hi hi (by omega)
 have hc4 := h.sess.cs i 3 hi hi (by omega)
 have l1 := h.sess.ls i 0 hi hi (by omega)
 have l2 := h.sess.ls i 1 hi hi (by omega)
 have l3 := h.sess.ls i 2 hi hi (by omega)
 have l4 := h.sess.ls i 3 hi hi (by omega)
 rw [Nat.zero_add]
 exact ⟨_, _, _, _, hc0, hc1, hc2, hc3, hc4, l1.lst (nL _) l1.lt hs.l1.bytes hs.l1.sizes, l2.lst (nL _) l2.lt hs.l2.bytes hs.l2.sizes, l3.lst (nL _) l3.lt hs.l3.bytes hs.l3.sizes, l4.lst (nL _) l4.lt hs.l4.bytes hs.l4.sizes⟩
end Go.Proofs.YtpbaobmegomfpabGreatDoor
namespace Go.Proofs.YtpbaobmegomfpabGreatDoor
open Go.RowKit
theorem fnd_append (l m : PL) (k : ByteArray) : fndL (l ++ m) k = (fndL l k || fndL m k) := by
 induction l with
 | nil => simp [fndL, atL]
 | cons p l ih =>
  unfold fndL at ih ⊢
  rw [List.cons_append]
  cases e : eqB p.1 k
  ·rw [atL_no e, atL_no e]; exact ih
  ·rw [atL_yes e, atL_yes e]; simp
theorem fnd_flat (ss : List Sess) (k : ByteArray) : fndL (ss.flatMap (·.wr)) k = ss.any (fun s => fndL s.wr k) := by
 induction ss with
 | nil => simp [fndL, atL]
 | cons s ss ih => rw [List.flatMap_cons, fnd_append, ih]; simp
theorem fnd_all {W : Wd} (h : risingB W.rows = true) (k : ByteArray) : fndL (allL W) k = (fndL W.rows k || W.ss.any (fun s => fndL s.wr k)) := by
 unfold allL; rw [allF_fnd h, fnd_flat]
theorem any_get {ss : List Sess} {f : Sess → Bool} : ss.any f = true ↔ ∃ k, ∃ hk : k < ss.length, f ss[k] = true := by
 rw [List.any_eq_true]
 constructor
 ·rintro ⟨s, hs, h⟩
  obtain ⟨k, hk, rfl⟩ := List.getElem_of_mem hs
  exact ⟨k, hk, h⟩
 ·rintro ⟨k, hk, h⟩; exact ⟨_, List.getElem_mem hk, h⟩
theorem plusF_up {R : PL} (h : risingB R = true) : ∀ l : PL, risingB (plusF R l) = true := by
 intro l
 unfold plusF
 induction l generalizing R with
 | nil => exact h
 | cons p l ih => rw [List.foldl_cons]; exact ih (by rw [plus_ins h]; exact ins_rising h)
theorem plusF_fnd {R : PL} {k : ByteArray} (h : risingB R = true) : ∀ l : PL, fndL (plusF R l) k = (fndL R k || fndL l k) := by
 intro l
 unfold plusF
 induction l generalizing R with
 | nil => simp [fndL, atL]
 | cons p l ih =>
  rw [List.foldl_cons, ih (by rw [plus_ins h]; exact ins_rising h), plus_ins h, fnd_ins h]
  have : fndL (p :: l) k = (eqB p.1 k || fndL l k) := by
   unfold fndL
   cases e : eqB p.1 k
   ·rw [atL_no e]; simp
   ·rw [atL_yes e]; simp
  rw [this]
  cases eqB p.1 k <;> cases fndL R k <;> simp
theorem plusF_mem {q : ByteArray × ByteArray} : ∀ {l R : PL}, q ∈ plusF R l → q ∈ R ∨ q ∈ l
 | [], R, h => .inl h
 | p :: l, R, h => by
  unfold plusF at h
  rw [List.foldl_cons] at h
  rcases plusF_mem (l := l) (R := plusL R p.1 p.2) h with h | h
  ·rcases plusL_mem h with h | h
   ·exact .inr (by rw [h]; simp)
   ·exact .inl h
  ·exact .inr (by simp [h])
theorem pairsB_mk {l : PL} {most : Nat} {kind : Int} (h1 : risingB l = true) (h2 : l.length ≤ most) (h3 : ∀ p ∈ l, checkE kind p.1 p.2 = 0) : pairsB l most kind = true := by
 unfold pairsB
 rw [h1, decide_eq_true h2, Bool.and_true, Bool.and_true, List.all_eq_true]
 exact fun p hp => decide_eq_true (h3 p hp)
theorem pairsB_nil (most : Nat) (kind : Int) : pairsB [] most kind = true := pairsB_mk rfl (Nat.zero_le _) (fun _ h => by cases h)
theorem pairsB_plus {l : PL} {most : Nat} {kind : Int} {key val : ByteArray} (h : pairsB l most kind = true) (hc : checkE kind key val = 0) (hr : fndL l key = true ∨ l.length < most) : pairsB (plusL l key val) most kind = true := by
 obtain ⟨h1, h2, h3⟩ := pairsB_rising h
 rw [plus_ins h1]
 refine pairsB_mk (ins_rising h1) ?_ (fun p hp => ?_)
 ·rw [ins_length h1]
  rcases hr with hr | hr
  ·unfold fndL at hr; rw [if_pos hr]; exact h2
  ·split <;> omega
 ·rcases ins_mem hp with rfl | hp
  ·exact hc
  ·exact h3 p hp
theorem fnd_plus {l : PL} {k v k' : ByteArray} (h : risingB l = true) : fndL (plusL l k v) k' = (eqB k k' || fndL l k') := by rw [plus_ins h, fnd_ins h]
section
variable {W : Wd} {i : Nat} {s' : Sess}
theorem wput_len (W : Wd) (i : Nat) (s' : Sess) : (W.put i s').ss.length = W.ss.length := by unfold Wd.put; simp
theorem wput_get (hi : i < W.ss.length) {k : Nat} (hk : k < (W.put i s').ss.length) : (W.put i s').ss[k] = if i = k then s' else W.ss[k]'(by rw [wput_len] at hk; exact hk) := by
 simp only [Wd.put]
 rw [List.getElem_set]
theorem held_put (hi : i < W.ss.length) (hs : ∀ k, fndL s'.wr k = true → fndL W.ss[i].wr k = true) {me : Int} {key : ByteArray} (h : heldB W.ss me key = false) : heldB (W.put i s').ss me key = false := by
 refine heldB_no fun k hk hf => Classical.byContradiction fun hne => ?_
 rw [wput_get hi hk] at hf
 have hk' : k < W.ss.length := by rw [wput_len] at hk; exact hk
 have : (atL W.ss[k].wr key).isSome = true := by
  by_cases e : i = k
  ·subst e; rw [if_pos rfl] at hf; exact hs key hf
  ·rw [if_neg e] at hf; exact hf
 rw [heldB_yes hk' this hne] at h; cases h
theorem any_put (hi : i < W.ss.length) {key : ByteArray} (h : (W.put i s').ss.any (fun s => fndL s.wr key) = true) : fndL s'.wr key = true ∨ W.ss.any (fun s => fndL s.wr key) = true := by
 obtain ⟨k, hk, hf⟩ := any_get.1 h
 rw [wput_get hi hk] at hf
 have hk' : k < W.ss.length := by rw [wput_len] at hk; exact hk
 by_cases e : i = k
 ·rw [if_pos e] at hf; exact .inl hf
 ·rw [if_neg e] at hf; exact .inr (any_get.2 ⟨k, hk', hf⟩)
theorem all_len {W' : Wd} (h : WorldOk W) (hr : risingB W'.rows = true) (hf : ∀ k, fndL (allL W') k = true → fndL (allL W) k = true) : (allL W').length ≤ 100 :=
 Nat.le_trans (sub_len (all_rising h) (allF_rising hr _) (fun p hp => hf p.1 (fnd_of_mem hp))) h.all
theorem all_more {W' : Wd} (h : WorldOk W) (hr : risingB W'.rows = true) {key : ByteArray} (hn : ¬ (fndL (allL W) key = false ∧ 100 ≤ (allL W).length)) (hf : ∀ k, fndL (allL W') k = true → eqB key k = true ∨ fndL (allL W) k = true) : (allL W').length ≤ 100 := by
 have h1 := sub_len (R := insL (allL W) key ⟨#[]⟩) (ins_rising (all_rising h)) (allF_rising hr (W'.ss.flatMap (·.wr))) (fun p hp => by
  rw [fnd_ins (all_rising h)]
  rcases hf p.1 (fnd_of_mem hp) with h | h
  ·rw [h]; rfl
  ·rw [h]; simp)
 rw [ins_length (all_rising h)] at h1
 have h2 := h.all
 have h3 : (allL W').length = (allF W'.rows (W'.ss.flatMap (·.wr))).length := rfl
 cases e : fndL (allL W) key
 ·unfold fndL at e
  rw [e] at h1
  have h4 : ¬ 100 ≤ (allL W).length := fun hh => hn ⟨e, hh⟩
  simp at h1
  omega
 ·unfold fndL at e
  rw [e] at h1
  simp at h1
  omega
theorem wput_ok (h : WorldOk W) (hi : i < W.ss.length) (hs : SessOk s') (hw : ∀ p ∈ s'.wr, p ∈ W.ss[i].wr) : WorldOk (W.put i s') := by
 have hf : ∀ k, fndL s'.wr k = true → fndL W.ss[i].wr k = true := fun k hk => by
  obtain ⟨v, hv⟩ := Option.isSome_iff_exists.1 hk
  exact atL_of_mem (hw _ (atL_mem hv))
 refine ⟨h.rows, by rw [wput_len]; exact h.many, fun k hk => ?_, fun k hk p hp => ?_, ?_⟩
 ·rw [wput_get hi hk]
  split
  ·exact hs
  ·exact h.sess k _
 ·have hk' : k < W.ss.length := by rw [wput_len] at hk; exact hk
  rw [wput_get hi hk] at hp
  refine held_put hi hf (h.apart k hk' p ?_)
  by_cases e : i = k
  ·subst e; rw [if_pos rfl] at hp; exact hw p hp
  ·rw [if_neg e] at hp; exact hp
 ·have hr := (pairsB_rising h.rows).1
  refine all_len h hr fun k hk => ?_
  rw [fnd_all (W := W.put i s') hr] at hk
  rw [fnd_all hr]
  rw [Bool.or_eq_true] at hk ⊢
  rcases hk with hk | hk
  ·exact .inl hk
  ·right
   rcases any_put hi hk with h1 | h1
   ·exact any_get.2 ⟨i, hi, hf k h1⟩
   ·exact h1
theorem put_wr_ok (h : WorldOk W) (hi : i < W.ss.length) {key val : ByteArray} (hst : W.ss[i].st = 1) (hc : checkE 10 key val = 0) (hh : heldB W.ss i key = false) (hn : ¬ (fndL (allL W) key = false ∧ 100 ≤ (allL W).length)) :
  WorldOk (W.put i { W.ss[i] with wr := plusL W.ss[i].wr key val }) := by
 have hs := h.sess i hi
 have hrw := (pairsB_rising hs.wr).1
 have hr := (pairsB_rising h.rows).1
 refine ⟨h.rows, by rw [wput_len]; exact h.many, fun k hk => ?_, fun k hk p hp => ?_, ?_⟩
 ·rw [wput_get hi hk]
  split
  ·exact ⟨hs.lo, hs.hi, hs.set, hs.prep, hs.sav, pairsB_plus hs.wr hc (room_wr h hi hn), hs.idle, fun hne => absurd hst hne⟩
  ·exact h.sess k _
 ·have hk' : k < W.ss.length := by rw [wput_len] at hk; exact hk
  rw [wput_get hi hk] at hp
  refine heldB_no fun m hm hf => Classical.byContradiction fun hne => ?_
  have hm' : m < W.ss.length := by rw [wput_len] at hm; exact hm
  rw [wput_get hi hm] at hf
  by_cases e : i = k
  ·subst e
   rw [if_pos rfl] at hp
   rw [if_neg (by omega)] at hf
   rw [plus_ins hrw] at hp
   rcases ins_mem hp with rfl | hp
   ·rw [heldB_yes hm' hf hne] at hh; cases hh
   ·have := h.apart i hi p hp
    rw [heldB_yes hm' hf hne] at this; cases this
  ·rw [if_neg e] at hp
   have hap := h.apart k hk' p hp
   by_cases e2 : i = m
   ·subst e2
    rw [if_pos rfl] at hf
    have hf : fndL (plusL W.ss[i].wr key val) p.1 = true := hf
    rw [fnd_plus hrw, Bool.or_eq_true] at hf
    rcases hf with hf | hf
    ·rw [eqB_iff.1 hf, heldB_yes hk' (atL_of_mem hp) (by omega)] at hh; cases hh
    ·rw [heldB_yes hi hf hne] at hap; cases hap
   ·rw [if_neg e2] at hf
    rw [heldB_yes hm' hf hne] at hap; cases hap
 ·refine all_more h hr hn fun k hk => ?_
  rw [fnd_all (W := W.put i _) hr, Bool.or_eq_true] at hk
  rw [fnd_all hr, Bool.or_eq_true]
  rcases hk with hk | hk
  ·exact .inr (.inl hk)
  ·rcases any_put hi hk with h1 | h1
   ·have h1 : fndL (plusL W.ss[i].wr key val) k = true := h1
    rw [fnd_plus hrw, Bool.or_eq_true] at h1
    rcases h1 with h1 | h1
    ·exact .inl h1
    ·exact .inr (.inr (any_get.2 ⟨i, hi, h1⟩))
   ·exact .inr (.inr h1)
theorem put_row_ok (h : WorldOk W) {key val : ByteArray} (hc : checkE 10 key val = 0) (hn : ¬ (fndL (allL W) key = false ∧ 100 ≤ (allL W).length)) : WorldOk ⟨plusL W.rows key val, W.ss⟩ := by
 have hr := (pairsB_rising h.rows).1
 have hp := pairsB_plus h.rows hc (room_rows h hn)
 have hr' := (pairsB_rising hp).1
 refine ⟨hp, h.many, h.sess, h.apart, all_more h hr' hn fun k hk => ?_⟩
 rw [fnd_all (W := ⟨plusL W.rows key val, W.ss⟩) hr', Bool.or_eq_true] at hk
 rw [fnd_all hr, Bool.or_eq_true]
 rcases hk with hk | hk
 ·have hk : fndL (plusL W.rows key val) k = true := hk
  rw [fnd_plus hr, Bool.or_eq_true] at hk
  rcases hk with hk | hk
  ·exact .inl hk
  ·exact .inr (.inl hk)
 ·exact .inr (.inr hk)
theorem commit_ok (h : WorldOk W) (hi : i < W.ss.length) : WorldOk ⟨plusF W.rows W.ss[i].wr, W.ss.set i { W.ss[i] with st := 0, sav := [], wr := [] }⟩ := by
 have hs := h.sess i hi
 have hr := (pairsB_rising h.rows).1
 have hr' := plusF_up hr W.ss[i].wr
 have hq := wput_ok (s' := { W.ss[i] with st := 0, sav := [], wr := [] }) h hi ⟨Int.le_refl _, (by show (0 : Int) ≤ 2; decide), hs.set, hs.prep, pairsB_nil _ _, pairsB_nil _ _, fun _ => rfl, fun _ => rfl⟩ (fun p hp => by cases hp)
 have hall : ∀ k, fndL (allL ⟨plusF W.rows W.ss[i].wr, W.ss.set i { W.ss[i] with st := 0, sav := [], wr := [] }⟩) k = true → fndL (allL W) k = true := fun k hk => by
  rw [fnd_all (W := ⟨plusF W.rows W.ss[i].wr, _⟩) hr', Bool.or_eq_true] at hk
  rw [fnd_all hr, Bool.or_eq_true]
  rcases hk with hk | hk
  ·have hk : fndL (plusF W.rows W.ss[i].wr) k = true := hk
   rw [plusF_fnd hr, Bool.or_eq_true] at hk
   rcases hk with hk | hk
   ·exact .inl hk
   ·exact .inr (any_get.2 ⟨i, hi, hk⟩)
  ·right
   rcases any_put (W := W) (s' := { W.ss[i] with st := 0, sav := [], wr := [] }) hi hk with h1 | h1
   ·cases h1
   ·exact h1
 refine ⟨pairsB_mk hr' ?_ (fun p hp => ?_), hq.many, hq.sess, hq.apart, all_len h hr' hall⟩
 ·have := sub_len (all_rising h) hr' (fun p hp => by
   have hf := fnd_of_mem hp
   rw [plusF_fnd hr, Bool.or_eq_true] at hf
   rw [fnd_all hr, Bool.or_eq_true]
   rcases hf with hf | hf
   ·exact .inl hf
   ·exact .inr (any_get.2 ⟨i, hi, hf⟩))
  have := h.all
  show (plusF W.rows W.ss[i].wr).length ≤ 100
  omega
 ·rcases plusF_mem hp with hp | hp
  ·exact (pairsB_rising h.rows).2.2 p hp
  ·exact (pairsB_rising hs.wr).2.2 p hp
def Fine (W : Wd) (r : Wd × Ans) : Prop := WorldOk r.1 ∧ r.1.ss.length = W.ss.length
theorem fine_ite {c : Prop} [Decidable c] {a b : Wd × Ans} (ha : c → Fine W a) (hb : ¬ c → Fine W b) : Fine W (if c then a else b) := by
 by_cases h : c
 ·rw [if_pos h]; exact ha h
 ·rw [if_neg h]; exact hb h
theorem did1_ok (h : WorldOk W) (hi : i < W.ss.length) {k : Int} {key val : ByteArray} (hc : checkE k key val = 0) : Fine W (did1 W i k key val) := by
 have hs := h.sess i hi
 have e : W.at i = W.ss[i] := by unfold Wd.at; rw [List.getD_eq_getElem?_getD, List.getElem?_eq_getElem hi]; rfl
 have same : ∀ a, Fine W (W, a) := fun a => ⟨h, rfl⟩
 unfold did1
 simp only
 rw [e]
 refine fine_ite (fun _ => same _) (fun hfail => ?_)
 refine fine_ite (fun _ => fine_ite (fun _ => ?_) (fun _ => same _)) (fun _ => ?_)
 ·exact ⟨wput_ok h hi ⟨(by show (0 : Int) ≤ 1; decide), (by show (1 : Int) ≤ 2; decide), hs.set, hs.prep, hs.set, hs.wr, (fun hh => absurd hh (by show ¬ (1 : Int) = 0; decide)), fun hh => absurd rfl hh⟩ (fun p hp => hp), wput_len _ _ _⟩
 refine fine_ite (fun _ => fine_ite (fun _ => same _) (fun _ => fine_ite (fun _ => ?_) (fun _ => ?_))) (fun _ => ?_)
 ·exact ⟨commit_ok h hi, by simp⟩
 ·exact ⟨wput_ok h hi ⟨Int.le_refl _, (by show (0 : Int) ≤ 2; decide), hs.sav, hs.prep, pairsB_nil _ _, pairsB_nil _ _, fun _ => rfl, fun _ => rfl⟩ (fun p hp => by cases hp), wput_len _ _ _⟩
 refine fine_ite (fun _ => fine_ite (fun _ => ?_) (fun _ => same _)) (fun _ => ?_)
 ·exact ⟨wput_ok h hi ⟨hs.lo, hs.hi, pairsB_nil _ _, pairsB_nil _ _, hs.sav, hs.wr, hs.idle, hs.tx⟩ (fun p hp => hp), wput_len _ _ _⟩
 refine fine_ite (fun _ => same _) (fun _ => fine_ite (fun _ => same _) (fun _ => ?_))
 refine fine_ite (fun h9 => fine_ite (fun _ => same _) (fun hn => ?_)) (fun _ => ?_)
 ·subst h9
  refine ⟨wput_ok h hi ⟨hs.lo, hs.hi, pairsB_plus hs.set hc ?_, hs.prep, hs.sav, hs.wr, hs.idle, hs.tx⟩ (fun p hp => hp), wput_len _ _ _⟩
  cases e : fndL W.ss[i].set key
  ·exact .inr (Nat.lt_of_not_le fun hh => hn ⟨e, hh⟩)
  ·exact .inl rfl
 refine fine_ite (fun h10 => fine_ite (fun _ => same _) (fun hh => fine_ite (fun _ => same _) (fun hn => fine_ite (fun h1 => ?_) (fun _ => ?_)))) (fun _ => ?_)
 ·subst h10
  exact ⟨put_wr_ok h hi h1 hc (by simpa using hh) hn, wput_len _ _ _⟩
 ·subst h10
  exact ⟨put_row_ok h hc hn, rfl⟩
 refine fine_ite (fun h11 => fine_ite (fun _ => same _) (fun hn => ?_)) (fun _ => same _)
 subst h11
 refine ⟨wput_ok h hi ⟨hs.lo, hs.hi, hs.set, pairsB_plus hs.prep hc ?_, hs.sav, hs.wr, hs.idle, hs.tx⟩ (fun p hp => hp), wput_len _ _ _⟩
 cases e : fndL W.ss[i].prep key
 ·exact .inr (Nat.lt_of_not_le fun hh => hn ⟨e, hh⟩)
 ·exact .inl rfl
theorem prep_stmt {l : PL} (h : pairsB l 6 11 = true) {key t : ByteArray} (ha : atL l key = some t) : readE t = 0 ∧ checkE (kindN (cutA t)) (cutA (cutB t)) (cutB (cutB t)) = 0 ∧ (kindN (cutA t) = 6 ∨ kindN (cutA t) = 7 ∨ kindN (cutA t) = 10) := by
 have hc := (pairsB_rising h).2.2 _ (atL_mem ha)
 have hv : prepB t = true := by
  unfold checkE at hc
  rw [if_neg (by decide)] at hc
  split at hc
  ·rename_i hh
   rw [Bool.and_eq_true] at hh
   have := hh.2
   unfold valueB at this
   rwa [if_pos rfl] at this
  ·cases hc
 rw [prepB_read, Bool.and_eq_true, decide_eq_true_eq, decide_eq_true_eq] at hv
 exact ⟨hv.1, (text_read hv.1).1, hv.2⟩
theorem didM_ok (h : WorldOk W) (hi : i < W.ss.length) {k : Int} {key val : ByteArray} (hc : checkE k key val = 0) : Fine W (didM W i k key val) := by
 have hs := h.sess i hi
 have e : W.at i = W.ss[i] := by unfold Wd.at; rw [List.getD_eq_getElem?_getD, List.getElem?_eq_getElem hi]; rfl
 unfold didM
 simp only [e]
 split
 ·split
  ·exact ⟨h, rfl⟩
  split
  ·exact ⟨h, rfl⟩
  ·rename_i t ht
   exact did1_ok h hi (prep_stmt hs.prep ht).2.1
 ·exact did1_ok h hi hc
theorem doM_ok (h : WorldOk W) (hi : i < W.ss.length) {k : Int} {key val : ByteArray} (hc : checkE k key val = 0) : Fine W (doM W i k key val) := by
 obtain ⟨h1, h2⟩ := didM_ok h hi hc
 unfold doM
 simp only
 split
 ·have hi' : i < (didM W i k key val).1.ss.length := by omega
  have e : (didM W i k key val).1.at i = (didM W i k key val).1.ss[i] := by unfold Wd.at; rw [List.getD_eq_getElem?_getD, List.getElem?_eq_getElem hi']; rfl
  have hs := h1.sess i hi'
  rw [e]
  exact ⟨wput_ok h1 hi' ⟨(by show (0 : Int) ≤ 2; decide), (by show (2 : Int) ≤ 2; decide), hs.set, hs.prep, hs.sav, pairsB_nil _ _, (fun hh => absurd hh (by show ¬ (2 : Int) = 0; decide)), fun _ => rfl⟩ (fun p hp => by cases hp), by rw [wput_len]; exact h2⟩
 ·exact ⟨h1, h2⟩
end
end Go.Proofs.YtpbaobmegomfpabGreatDoor
namespace Go.Proofs.YtpbaobmegomfpabGreatDoor
open Go.RowKit
structure AnsOk (a : Ans) : Prop where
 lo : 1 ≤ a.kind
 hi : a.kind ≤ 4
 len : a.text.size ≤ 60
 ne : (decide (a.kind = 2 ∨ a.kind = 4) == a.text.toList.isEmpty) = false
theorem no_ok {t : ByteArray} (h : t.size ≤ 60) (h1 : 1 ≤ t.size) : AnsOk (no' t) := ⟨(by show (1 : Int) ≤ 4; decide), Int.le_refl _, h, by rw [show (no' t).text = t from rfl, full_of h1]; show (decide ((4 : Int) = 2 ∨ (4 : Int) = 4) == false) = false; decide⟩
theorem ok_ok : AnsOk ok' := ⟨Int.le_refl _, (by show (1 : Int) ≤ 4; decide), (by show 0 ≤ 60; decide), by rw [empty_of (s := ok'.text) rfl]; decide⟩
theorem fnd_ok {o : Option ByteArray} (h : ∀ v, o = some v → 1 ≤ v.size ∧ v.size ≤ 60) : AnsOk (fnd' o) := by
 cases o with
 | none => exact ⟨(by show (1 : Int) ≤ 3; decide), (by show (3 : Int) ≤ 4; decide), (by show 0 ≤ 60; decide), by rw [empty_of (s := (fnd' none).text) rfl]; decide⟩
 | some v => exact ⟨(by show (1 : Int) ≤ 2; decide), (by show (2 : Int) ≤ 4; decide), (h v rfl).2, by rw [show (fnd' (some v)).text = v from rfl, full_of (h v rfl).1]; show (decide ((2 : Int) = 2 ∨ (2 : Int) = 4) == false) = false; decide⟩
theorem val_ok {l : PL} {most : Nat} {kind : Int} (hk : 9 ≤ kind) (h : pairsB l most kind = true) {key v : ByteArray} (ha : atL l key = some v) : 1 ≤ v.size ∧ v.size ≤ 60 := by
 have g := good_of ((pairsB_rising h).2.2 _ (atL_mem ha))
 refine ⟨?_, g.v60⟩
 have this : v.toList.isEmpty = decide (kind < 9) := g.vE
 rw [decide_eq_false (by omega)] at this
 rcases Nat.lt_or_ge 0 v.size with h' | h'
 ·exact h'
 ·rw [empty_of (by omega)] at this; cases this
section
variable {W : Wd} {i : Nat}
theorem ans_ite {c : Prop} [Decidable c] {a b : Wd × Ans} (ha : AnsOk a.2) (hb : AnsOk b.2) : AnsOk (if c then a else b).2 := by
 split
 ·exact ha
 ·exact hb
theorem did1_ans (h : WorldOk W) (hi : i < W.ss.length) (k : Int) (key val : ByteArray) : AnsOk (did1 W i k key val).2 := by
 have hs := h.sess i hi
 have e : W.at i = W.ss[i] := by unfold Wd.at; rw [List.getD_eq_getElem?_getD, List.getElem?_eq_getElem hi]; rfl
 unfold did1
 simp only
 rw [e]
 repeat' first
  | exact no_ok (by decide) (by decide)
  | exact ok_ok
  | refine ans_ite ?_ ?_
 ·exact fnd_ok fun v hv => val_ok (by decide) hs.set hv
 ·refine fnd_ok fun v hv => ?_
  cases ha : atL W.ss[i].wr key with
  | none => rw [ha] at hv; exact val_ok (by decide) h.rows hv
  | some u => rw [ha] at hv; injection hv with hv; subst hv; exact val_ok (by decide) hs.wr ha
theorem didM_ans (h : WorldOk W) (hi : i < W.ss.length) (k : Int) (key val : ByteArray) : AnsOk (didM W i k key val).2 := by
 unfold didM
 refine ans_ite (ans_ite (no_ok (by decide) (by decide)) ?_) (did1_ans h hi _ _ _)
 split
 ·exact no_ok (by decide) (by decide)
 ·exact did1_ans h hi _ _ _
theorem doM_ans (h : WorldOk W) (hi : i < W.ss.length) (k : Int) (key val : ByteArray) : AnsOk (doM W i k key val).2 := by
 unfold doM
 simp only
 exact ans_ite (didM_ans h hi _ _ _) (didM_ans h hi _ _ _)
end
end Go.Proofs.YtpbaobmegomfpabGreatDoor
