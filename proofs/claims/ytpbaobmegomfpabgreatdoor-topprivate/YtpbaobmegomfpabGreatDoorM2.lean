/-
  Texts of the proof, one behind the other: BTx, BackPut, RefAt, RefMay, BCnt, BPut, BPutA, BPutB, BPutC, BPutD, BPutE, BPutF, BEnd, BEnd2, BExe.
-/
import Derived.Test.YtpbaobmegomfpabGreatDoorM1
import Derived.Test.YtpbaobmegomfpabGreatDoorRows
import Derived.Deep.QuietTactic
import Derived.BigQuiet
import Derived.Maps.Own
import Derived.Maps.OwnOps
import Derived.Maps.OwnSet
import Derived.WalkArith
import Derived.Deep.RegionWith
set_option linter.unusedVariables false
set_option linter.unusedSimpArgs false
set_option maxRecDepth 100000
open List renaming getElem_toArray → gTA, getElem_cons_zero → gCZ, getElem_cons_succ → gCS, setIfInBounds_toArray → sTA, set_cons_zero → sCZ, set_cons_succ → sCS
open Go.Lib renaming hid → hD
open Nat renaming le_refl → nL
namespace Go.Proofs.YtpbaobmegomfpabGreatDoor
open Go.RowKit
def Rest (w w' : World) (X S gR : Nat) (G : Nat → Nat → Nat) (n : Nat) : Prop := ∀ b, b < w.heap.size → b ≠ X → b ≠ S → b ≠ gR → (∀ i j, i < n → j < 4 → b ≠ G i j) → w'.heap[b]? = w.heap[b]?
def DonePost (w : World) (base X S gR : Nat) (G : Nat → Nat → Nat) (n : Nat) (W : Wd) (e : Ending) (w' : World) : Prop := e = .returned (ansV 1 ⟨#[]⟩) ∧ EndW w' base X S W ∧ Below base w w' ∧ Rest w w' X S gR G n
theorem getD_at {W : Wd} {i : Nat} (h : i < W.ss.length) : W.at i = W.ss[i] := by
 unfold Wd.at
 rw [List.getD_eq_getElem?_getD, List.getElem?_eq_getElem h]
 rfl
structure Chs (w w' wS : World) (S : Nat) : Prop where
 os : w'.os = w.os
 tape : w'.tape = w.tape
 output : w'.output = w.output
 size : w.heap.size ≤ w'.heap.size
 other : ∀ b, b < w.heap.size → b ≠ S → w'.heap[b]? = w.heap[b]?
 here : w'.heap[S]? = wS.heap[S]?
theorem Chs.refl (w : World) (S : Nat) : Chs w w w S := ⟨rfl, rfl, rfl, nL _, fun _ _ _ => rfl, rfl⟩
theorem Chs.below {w w' w'' wS : World} {S B : Nat} (h : Chs w w' wS S) (hb : Below B w' w'') (hB : w.heap.size ≤ B) (hS : S < w.heap.size) : Chs w w'' wS S :=
 ⟨hb.os.trans h.os, hb.tape.trans h.tape, hb.output.trans h.output, Nat.le_trans h.size hb.size, fun b hbl hne => (hb.block b (by omega)).trans (h.other b hbl hne), (hb.block S (by omega)).trans h.here⟩
theorem Chs.alloc {w w' wS : World} {S : Nat} (h : Chs w w' wS S) (hS : S < w.heap.size) (o : Obj) : Chs w (w'.alloc o) wS S :=
 h.below (B := w'.heap.size) ((Below.refl _ _).alloc (nL _) o) h.size hS
theorem Chs.setS {w w' wS : World} {S j : Nat} (h : Chs w w' wS S) (v : Value) : Chs w (w'.setCell ⟨S, j, none⟩ v) (wS.setCell ⟨S, j, none⟩ v) S :=
 ⟨h.os, h.tape, h.output, by simpa [World.setCell] using h.size, fun b hb hne => (Below.heap_setCell _ _ _ _ hne).trans (h.other b hb hne), setCell_block (p := ⟨S, j, none⟩) h.here⟩
theorem Chs.setN {w w' wS : World} {S : Nat} (h : Chs w w' wS S) {p : Addr} (hp : w.heap.size ≤ p.block) (hS : S < w.heap.size) (v : Value) : Chs w (w'.setCell p v) wS S :=
 ⟨h.os, h.tape, h.output, by simpa [World.setCell] using h.size, fun b hb hne => (Below.heap_setCell _ _ _ _ (by omega)).trans (h.other b hb hne), (Below.heap_setCell _ _ _ _ (by omega)).trans h.here⟩
theorem Chs.bel {w w' wS : World} {S base : Nat} (h : Chs w w' wS S) (hb : base ≤ S) (hw : base ≤ w.heap.size) : Below base w w' :=
 ⟨h.os, h.tape, h.output, h.size, fun k hk => h.other k (by omega) (by omega)⟩
theorem OwnD.turned {w w' wS : World} {X S gR cR : Nat} {G C : Nat → Nat → Nat} {W : Wd} {base : Nat} (h : OwnD w X S gR cR G C W) (lo : LoD base X S gR G W.ss.length) {v1 v2 v3 v4 : Value} (lv : LoV base v1 ∧ LoV base v2 ∧ LoV base v3 ∧ LoV base v4) (hz : SzW W) {i : Nat} (hi : i < W.ss.length) {s' : Sess} (hc : Chs w w' wS S)
  (hblk : RowTo wS S 115 (W.ss.length * 5) []) (hS : ∀ k j, k ≠ i → j < 5 → wS.cell? ⟨S, k * 5 + j, none⟩ = w.cell? ⟨S, k * 5 + j, none⟩)
  (c0 : wS.cell? ⟨S, i * 5, none⟩ = some (.int .i64 s'.st)) (c1 : wS.cell? ⟨S, i * 5 + 1, none⟩ = some v1) (c2 : wS.cell? ⟨S, i * 5 + 2, none⟩ = some v2) (c3 : wS.cell? ⟨S, i * 5 + 3, none⟩ = some v3) (c4 : wS.cell? ⟨S, i * 5 + 4, none⟩ = some v4)
  (l1 : Lst w' w'.heap.size v1 s'.set) (l2 : Lst w' w'.heap.size v2 s'.prep) (l3 : Lst w' w'.heap.size v3 s'.sav) (l4 : Lst w' w'.heap.size v4 s'.wr) : EndW w' base X S (W.put i s') := by
 have cc : ∀ j, w'.cell? ⟨S, j, none⟩ = wS.cell? ⟨S, j, none⟩ := fun j => World.cell?_of_block hc.here
 refine h.left lo (LoV.slc lo.r) lv hz hi hc.size (h.box.same (hc.other X h.box.lt h.neXS)) (hblk.same hc.here) ((h.rows.same (hc.other gR h.rows.row.lt h.neRS)).lst (by have := hz.rows.1; omega) hz.rows.sz)
  (fun k j hk hj => (cc _).trans (hS k j hk hj)) (fun k j hk hne hj => hc.other _ (h.ls k j hk hj).row.lt (h.neGS k j hk hj)) ⟨(cc _).trans c0, (cc _).trans c1, (cc _).trans c2, (cc _).trans c3, (cc _).trans c4, l1, l2, l3, l4⟩
theorem OwnD.li_kept {w w' wS : World} {X S gR cR : Nat} {G C : Nat → Nat → Nat} {W : Wd} (h : OwnD w X S gR cR G C W) (hz : SzW W) {i j : Nat} (hi : i < W.ss.length) (hj : j < 4) (hc : Chs w w' wS S) : Lst w' w'.heap.size (slc (G i j) (W.ss[i].li j).length (C i j)) (W.ss[i].li j) :=
 ((h.ls i j hi hj).same (hc.other _ (h.ls i j hi hj).row.lt (h.neGS i j hi hj))).lst (by have := (hz.li i j hi hj).1; omega) (hz.li i j hi hj).sz
set_option maxHeartbeats 2000000 in
theorem begin_ok (base X S gR cR : Nat) (G C : Nat → Nat → Nat) (W : Wd) (i : Nat) (w : World) (h : OwnD w X S gR cR G C W) (lo : LoD base X S gR G W.ss.length) (hz : SzW W) (hb : base ≤ w.heap.size) (hi : i < W.ss.length) (hst : W.ss[i].st = 0) :
  Calls Tryz.prog 65 #[.pointer (some ⟨S, i * 5, none⟩)] w (DonePost w base X S gR G W.ss.length (W.put i { W.ss[i] with st := 1, sav := W.ss[i].set })) := by
 have c0 := h.st i hi
 rw [hst] at c0
 have c1 : w.cell? ⟨S, i * 5 + 1, none⟩ = some (.slice (some ⟨G i 0, 0, none⟩) W.ss[i].set.length (C i 0)) := h.cs i 0 hi (by omega)
 have hSw := h.blk.lt
 have hO := h.ls i 0 hi (by omega)
 have hne := h.neGS i 0 hi (by omega)
 have f0 := h.blk.frozen (i * 5)
 have f3 := h.blk.frozen (i * 5 + 3)
 obtain ⟨u3, d3⟩ := h.blk.any (j := i * 5 + 3) (by omega)
 have hs0 := (hz.li i 0 hi (by omega))
 have H := hD h
 have HO := hD hO
 have HZ := hD hz
 have H60 := hD hs0
 clear h hO hs0
 go_enter Tryz.func65, Tryz.ntmps65
 go_wp2_with fail
 have ch1 := ((Chs.refl w S).setS (j := i * 5) (.int .i64 1)).alloc hSw (.cells #[.int .i64 0, .string ⟨#[]⟩, .int .i64 0] 46)
 have O1 : Lst ((w.setCell ⟨S, i * 5, none⟩ (.int .i64 1)).alloc (.cells #[.int .i64 0, .string ⟨#[]⟩, .int .i64 0] 46)) ((w.setCell ⟨S, i * 5, none⟩ (.int .i64 1)).alloc (.cells #[.int .i64 0, .string ⟨#[]⟩, .int .i64 0] 46)).heap.size (.slice (some ⟨G i 0, 0, none⟩) W.ss[i].set.length (C i 0)) W.ss[i].set :=
  (HO.out.same (ch1.other _ HO.out.row.lt hne)).lst (by have := H60.out.1; omega) H60.out.sz
 refine (copyPairs_any _ W.ss[i].set _ O1).mono ?_
 rintro e w2 ⟨g, rfl, q, rr, hy⟩
 have ch2 := ch1.below hy ch1.size hSw
 have X0 : RowTo w2 w.heap.size 46 3 [.int .i64 0, .string ⟨#[]⟩, .int .i64 0] := by
  have := (RowTo.whole (w.setCell ⟨S, i * 5, none⟩ (.int .i64 1)) #[.int .i64 0, .string ⟨#[]⟩, .int .i64 0] 46).below hy (by simp [World.setCell])
  simpa [World.setCell] using this
 have cS : ∀ j, w2.cell? ⟨S, j, none⟩ = (w.setCell ⟨S, i * 5, none⟩ (.int .i64 1)).cell? ⟨S, j, none⟩ := fun j => World.cell?_of_block ch2.here
 have fS : ∀ j, w2.frozen? ⟨S, j, none⟩ = (w.setCell ⟨S, i * 5, none⟩ (.int .i64 1)).frozen? ⟨S, j, none⟩ := fun j => World.frozen?_of_block ch2.here
 have d3' : w2.cell? ⟨S, i * 5 + 3, none⟩ = some u3 := by rw [cS, cell_off _ (by omega)]; exact d3
 have f3' : w2.frozen? ⟨S, i * 5 + 3, none⟩ = false := by rw [fS, World.frozen?_setCell]; exact f3
 have hgw : w.heap.size < g := by have := q; simp [World.setCell] at this; omega
 have HC := hD ch2
 have HX := hD X0
 have HR := hD rr
 clear ch1 ch2 O1 hy X0 cS fS rr d3 f3 q
 go_wp2_with fail
 refine (done_any _).mono ?_
 rintro e w3 ⟨rfl, hy3⟩
 have ch3 := (HC.out.setS (j := i * 5 + 3) (.slice (some ⟨g, 0, none⟩) W.ss[i].set.length W.ss[i].set.length)).below hy3 (by have := HC.out.size; simpa [World.setCell] using this) hSw
 have X3 := (HX.out.other (p := ⟨S, i * 5 + 3, none⟩) (by show S ≠ _; omega) (.slice (some ⟨g, 0, none⟩) W.ss[i].set.length W.ss[i].set.length)).below hy3 (by have := HX.out.lt; simpa [World.setCell] using this)
 have R3 := (HR.out.other (p := ⟨S, i * 5 + 3, none⟩) (by show S ≠ g; omega) (.slice (some ⟨g, 0, none⟩) W.ss[i].set.length W.ss[i].set.length)).below hy3 (by have := HR.out.lt; simpa [World.setCell] using this)
 have r0 := X3.cell (j := 0) (by simp)
 have r1 := X3.cell (j := 1) (by simp)
 have r2 := X3.cell (j := 2) (by simp)
 have s0 := X3.frozen 0
 have s1 := X3.frozen 1
 have s2 := X3.frozen 2
 simp only [gCZ, gCS] at r0 r1 r2
 have HC3 := hD ch3
 have HR3 := hD R3
 clear ch3 X3 hy3 R3
 unfold ansV
 go_wp2
 refine bodyPost_ret (v := .agg #[.int .i64 1, .string ⟨#[]⟩, .int .i64 0]) (by simp [results, Tryz.results65, go_sem, r0, r1, r2]) rfl ?_
 have ch := ((HC3.out.setN (p := ⟨w.heap.size, 0, none⟩) (nL _) hSw (.int .i64 1)).setN (p := ⟨w.heap.size, 1, none⟩) (nL _) hSw (.string ⟨#[]⟩)).setN (p := ⟨w.heap.size, 2, none⟩) (nL _) hSw (.int .i64 0)
 refine ⟨rfl, ?_, ch.bel lo.s hb, fun b hb _ h2 _ _ => ch.other b hb h2⟩
 have hh := H.out
 have hzz := HZ.out
 have hrow := (hh.blk.hit (j := i * 5) (.int .i64 1)).hit (j := i * 5 + 3) (.slice (some ⟨g, 0, none⟩) W.ss[i].set.length W.ss[i].set.length)
 refine hh.turned lo ?_ (v3 := .slice (some ⟨g, 0, none⟩) W.ss[i].set.length W.ss[i].set.length) hzz hi ch hrow (fun k j hk hj => ?_) ?_ ?_ ?_ ?_ ?_ (hh.li_kept hzz hi (j := 0) (by omega) ch) (hh.li_kept hzz hi (j := 1) (by omega) ch) ?_ (hh.li_kept hzz hi (j := 3) (by omega) ch)
 ·exact ⟨lo.v hi (by omega), lo.v hi (by omega), LoV.at (by omega), lo.v hi (by omega)⟩
 ·rw [cell_off _ (by omega), cell_off _ (by omega)]
 ·rw [cell_off _ (by omega)]; exact cell_put hh.blk (by omega) _
 ·rw [cell_off _ (by omega), cell_off _ (by omega)]; exact hh.cs i 0 hi (by omega)
 ·rw [cell_off _ (by omega), cell_off _ (by omega)]; exact hh.cs i 1 hi (by omega)
 ·exact cell_put (hh.blk.hit _) (by omega) _
 ·rw [cell_off _ (by omega), cell_off _ (by omega)]; exact hh.cs i 3 hi (by omega)
 ·have hgr : w.heap.size ≠ g := by omega
  have R4 := ((HR3.out.other (p := ⟨w.heap.size, 0, none⟩) hgr (.int .i64 1)).other (p := ⟨w.heap.size, 1, none⟩) hgr (.string ⟨#[]⟩)).other (p := ⟨w.heap.size, 2, none⟩) hgr (.int .i64 0)
  exact R4.lst (nL _) R4.lt (by have := H60.out.1; show W.ss[i].set.length * 32 ≤ _; have e : (W.ss[i].li 0).length = W.ss[i].set.length := rfl; omega) H60.out.sz
set_option maxHeartbeats 1000000 in
theorem reset_no (w : World) (p : Addr) (st : Int) (hc : w.cell? p = some (.int .i64 st)) (hst : st ≠ 0) :
  Calls Tryz.prog 67 #[.pointer (some p)] w fun e w' => e = .returned (ansV 4 tNotIn) ∧ Below w.heap.size w w' := by
 have hp := World.block_lt_of_cell? w _ hc
 have h1 : (st != 0) = true := bne_iff_ne.2 hst
 clear hst
 go_enter Tryz.func67, Tryz.ntmps67
 go_wp2_with fail
 refine (failure_any tNotIn _).mono ?_
 rintro e w9 ⟨rfl, hb9⟩
 have X9 := (RowTo.whole w #[.int .i64 0, .string ⟨#[]⟩, .int .i64 0] 46).below hb9 (by simp)
 have r0 := X9.cell (j := 0) (by simp)
 have r1 := X9.cell (j := 1) (by simp)
 have r2 := X9.cell (j := 2) (by simp)
 have s0 := X9.frozen 0
 have s1 := X9.frozen 1
 have s2 := X9.frozen 2
 simp only [gCZ, gCS] at r0 r1 r2
 have B9 := hD (bel_add' ((Below.refl w.heap.size w).alloc (nL _) _) hb9 (by simp))
 clear X9 hb9
 unfold ansV
 go_wp2
 refine bodyPost_ret (v := .agg #[.int .i64 4, .string tNotIn, .int .i64 0]) (by simp [results, Tryz.results67, go_sem, r0, r1, r2]) rfl ⟨rfl, ?_⟩
 exact ((B9.out.setCell (by simp) _).setCell (by simp) _).setCell (by simp) _
set_option maxHeartbeats 2000000 in
theorem reset_ok (base X S gR cR : Nat) (G C : Nat → Nat → Nat) (W : Wd) (i : Nat) (w : World) (h : OwnD w X S gR cR G C W) (lo : LoD base X S gR G W.ss.length) (hz : SzW W) (hb : base ≤ w.heap.size) (hi : i < W.ss.length) (hst : W.ss[i].st = 0) :
  Calls Tryz.prog 67 #[.pointer (some ⟨S, i * 5, none⟩)] w (DonePost w base X S gR G W.ss.length (W.put i { W.ss[i] with set := [], prep := [] })) := by
 have c0 := h.st i hi
 rw [hst] at c0
 have hSw := h.blk.lt
 have f1 := h.blk.frozen (i * 5 + 1)
 have f2 := h.blk.frozen (i * 5 + 2)
 obtain ⟨u1, d1⟩ := h.blk.any (j := i * 5 + 1) (by omega)
 obtain ⟨u2, d2⟩ := h.blk.any (j := i * 5 + 2) (by omega)
 have H := hD h
 have HZ := hD hz
 have HT := hD hst
 clear h hst
 go_enter Tryz.func67, Tryz.ntmps67
 go_wp2_with fail
 have ch1 := (((Chs.refl w S).setS (j := i * 5 + 1) (.slice none 0 0)).setS (j := i * 5 + 2) (.slice none 0 0)).alloc hSw (.cells #[.int .i64 0, .string ⟨#[]⟩, .int .i64 0] 46)
 have X0 : RowTo (((w.setCell ⟨S, i * 5 + 1, none⟩ (.slice none 0 0)).setCell ⟨S, i * 5 + 2, none⟩ (.slice none 0 0)).alloc (.cells #[.int .i64 0, .string ⟨#[]⟩, .int .i64 0] 46)) w.heap.size 46 3 [.int .i64 0, .string ⟨#[]⟩, .int .i64 0] := by
  have := RowTo.whole ((w.setCell ⟨S, i * 5 + 1, none⟩ (.slice none 0 0)).setCell ⟨S, i * 5 + 2, none⟩ (.slice none 0 0)) #[.int .i64 0, .string ⟨#[]⟩, .int .i64 0] 46
  simpa [World.setCell] using this
 refine (done_any _).mono ?_
 rintro e w3 ⟨rfl, hy3⟩
 have ch3 := ch1.below hy3 ch1.size hSw
 have X3 := X0.below hy3 X0.lt
 have r0 := X3.cell (j := 0) (by simp)
 have r1 := X3.cell (j := 1) (by simp)
 have r2 := X3.cell (j := 2) (by simp)
 have s0 := X3.frozen 0
 have s1 := X3.frozen 1
 have s2 := X3.frozen 2
 simp only [gCZ, gCS] at r0 r1 r2
 have HC3 := hD ch3
 clear ch1 ch3 X0 X3 hy3
 unfold ansV
 go_wp2
 refine bodyPost_ret (v := .agg #[.int .i64 1, .string ⟨#[]⟩, .int .i64 0]) (by simp [results, Tryz.results67, go_sem, r0, r1, r2]) rfl ?_
 have ch := ((HC3.out.setN (p := ⟨w.heap.size, 0, none⟩) (nL _) hSw (.int .i64 1)).setN (p := ⟨w.heap.size, 1, none⟩) (nL _) hSw (.string ⟨#[]⟩)).setN (p := ⟨w.heap.size, 2, none⟩) (nL _) hSw (.int .i64 0)
 refine ⟨rfl, ?_, ch.bel lo.s hb, fun b hb _ h2 _ _ => ch.other b hb h2⟩
 have hh := H.out
 have hzz := HZ.out
 have hrow := (hh.blk.hit (j := i * 5 + 1) (.slice none 0 0)).hit (j := i * 5 + 2) (.slice none 0 0)
 refine hh.turned lo ?_ (v1 := .slice none 0 0) (v2 := .slice none 0 0) hzz hi ch hrow (fun k j hk hj => ?_) ?_ ?_ ?_ ?_ ?_ (Lst.none_ _ _) (Lst.none_ _ _) (hh.li_kept hzz hi (j := 2) (by omega) ch) (hh.li_kept hzz hi (j := 3) (by omega) ch)
 ·exact ⟨LoV.non _ _ _, LoV.non _ _ _, lo.v hi (by omega), lo.v hi (by omega)⟩
 ·rw [cell_off _ (by omega), cell_off _ (by omega)]
 ·rw [cell_off _ (by omega), cell_off _ (by omega)]; exact hh.st i hi
 ·rw [cell_off _ (by omega)]; exact cell_put hh.blk (by omega) _
 ·exact cell_put (hh.blk.hit _) (by omega) _
 ·rw [cell_off _ (by omega), cell_off _ (by omega)]; exact hh.cs i 2 hi (by omega)
 ·rw [cell_off _ (by omega), cell_off _ (by omega)]; exact hh.cs i 3 hi (by omega)
end Go.Proofs.YtpbaobmegomfpabGreatDoor
namespace Go.Proofs.YtpbaobmegomfpabGreatDoor
open Go.RowKit
theorem sub_len : ∀ {R l : PL}, risingB R = true → risingB l = true → (∀ p ∈ l, fndL R p.1 = true) → l.length ≤ R.length
 | [], [], _, _, _ => nL _
 | [], p :: l, _, _, h => by have := h p (by simp); cases this
 | q :: R, [], _, _, _ => by simp
 | q :: R, p :: l, hR, hl, h => by
  have tail : ∀ x, ltB q.1 x = true → fndL (q :: R) x = true → fndL R x = true := fun x hx hf => by
   unfold fndL at hf ⊢
   rwa [atL_no (eqB_false.2 (ltB_ne hx))] at hf
  have hp := h p (by simp)
  cases e : eqB q.1 p.1
  ·-- the head of R is before p
   have hqp : ltB q.1 p.1 = true := by
    unfold fndL at hp
    rw [atL_no e] at hp
    obtain ⟨v, hv⟩ := Option.isSome_iff_exists.1 hp
    exact rising_head hR (p.1, v) (atL_mem hv)
   have := sub_len (R := R) (l := p :: l) (rising_tail hR) hl (fun x hx => by
    refine tail x.1 ?_ (h x hx)
    rcases List.mem_cons.1 hx with rfl | hx
    ·exact hqp
    ·exact ltB_trans hqp (rising_head hl x hx))
   simp only [List.length_cons] at this ⊢; omega
  ·have heq := eqB_iff.1 e
   have := sub_len (R := R) (l := l) (rising_tail hR) (rising_tail hl) (fun x hx => tail x.1 (by rw [heq]; exact rising_head hl x hx) (h x (by simp [hx])))
   simp only [List.length_cons]; omega
theorem fnd_ins {l : PL} {k v k' : ByteArray} (h : risingB l = true) : fndL (insL l k v) k' = (eqB k k' || fndL l k') := by
 unfold fndL
 rw [at_ins h]
 cases eqB k k' <;> simp
theorem sub_less {R l : PL} {k : ByteArray} (hR : risingB R = true) (hl : risingB l = true) (h : ∀ p ∈ l, fndL R p.1 = true) (hk : fndL R k = true) (hn : fndL l k = false) : l.length < R.length := by
 have h1 := sub_len (l := insL l k ⟨#[]⟩) hR (ins_rising hl) (fun p hp => by
  rcases ins_mem hp with rfl | hp
  ·exact hk
  ·exact h p hp)
 have hn' : ¬ (atL l k).isSome = true := by unfold fndL at hn; simp [hn]
 rw [ins_length hl, if_neg hn'] at h1
 omega
theorem allF_rising {R : PL} (h : risingB R = true) : ∀ l : PL, risingB (allF R l) = true := by
 intro l
 unfold allF
 induction l generalizing R with
 | nil => exact h
 | cons p l ih => rw [List.foldl_cons]; exact ih (by rw [plus_ins h]; exact ins_rising h)
theorem allF_fnd {R : PL} {k : ByteArray} (h : risingB R = true) : ∀ l : PL, fndL (allF R l) k = (fndL R k || fndL l k) := by
 intro l
 unfold allF
 induction l generalizing R with
 | nil => simp [fndL, atL]
 | cons p l ih =>
  rw [List.foldl_cons, ih (by rw [plus_ins h]; exact ins_rising h), plus_ins h, fnd_ins h]
  have : fndL (p :: l) k = (eqB p.1 k || fndL l k) := by
   unfold fndL
   cases e : eqB p.1 k
   ·rw [atL_no e]; simp
   ·rw [atL_yes e]; simp
  rw [this]
  cases eqB p.1 k <;> cases fndL R k <;> simp
theorem fnd_of_mem {l : PL} {p : ByteArray × ByteArray} (h : p ∈ l) : fndL l p.1 = true := atL_of_mem h
section
variable {W : Wd} (h : WorldOk W)
include h
theorem all_rising : risingB (allL W) = true := allF_rising (pairsB_rising h.rows).1 _
theorem all_rows {p : ByteArray × ByteArray} (hp : p ∈ W.rows) : fndL (allL W) p.1 = true := by
 unfold allL; rw [allF_fnd (pairsB_rising h.rows).1, fnd_of_mem hp]; rfl
theorem all_wr {i : Nat} (hi : i < W.ss.length) {p : ByteArray × ByteArray} (hp : p ∈ W.ss[i].wr) : fndL (allL W) p.1 = true := by
 unfold allL
 rw [allF_fnd (pairsB_rising h.rows).1, fnd_of_mem (List.mem_flatMap.2 ⟨W.ss[i], List.getElem_mem hi, hp⟩)]
 simp
theorem held_cnt {i : Nat} (hi : i < W.ss.length) (key : ByteArray) : heldB W.ss i key = (decide (0 < cntL (W.ss.flatMap (·.wr)) key) && !fndL W.ss[i].wr key) := by
 have hr : ∀ k (hk : k < W.ss.length), risingB W.ss[k].wr = true := fun k hk => (pairsB_rising (h.sess k hk).wr).1
 cases e : heldB W.ss i key
 ·symm
  rw [Bool.and_eq_false_iff]
  by_cases hc : 0 < cntL (W.ss.flatMap (·.wr)) key
  ·right
   obtain ⟨k, hk, h1⟩ := cnt_pos (ss := W.ss) (key := key) hc
   have hs := (some_cnt (hr k hk)).1 h1
   by_cases hki : k = i
   ·subst hki; unfold fndL; rw [hs]; rfl
   ·rw [heldB_yes hk hs (by omega)] at e; cases e
  ·left; exact decide_eq_false hc
 ·obtain ⟨k, hk, hs, hne⟩ := heldB_iff.1 e
  have h1 := (some_cnt (hr k hk)).2 hs
  have h2 := cnt_one (key := key) hk
  have h3 : fndL W.ss[i].wr key = false := by
   cases e2 : fndL W.ss[i].wr key
   ·rfl
   ·obtain ⟨v, hv⟩ := Option.isSome_iff_exists.1 e2
    have := h.apart i hi _ (atL_mem hv)
    rw [e] at this; cases this
  rw [h3, decide_eq_true (by omega)]; rfl
theorem room_wr {i : Nat} (hi : i < W.ss.length) {key : ByteArray} (hf : ¬ (fndL (allL W) key = false ∧ 100 ≤ (allL W).length)) : fndL W.ss[i].wr key = true ∨ W.ss[i].wr.length < 100 := by
 cases e : fndL W.ss[i].wr key
 ·right
  have hr := (pairsB_rising (h.sess i hi).wr).1
  cases e2 : fndL (allL W) key
  ·have := sub_len (all_rising h) hr (fun p hp => all_wr h hi hp)
   have h3 : ¬ 100 ≤ (allL W).length := fun h3 => hf ⟨e2, h3⟩
   omega
  ·have := sub_less (all_rising h) hr (fun p hp => all_wr h hi hp) e2 e
   have := h.all
   omega
 ·exact .inl rfl
theorem room_rows {key : ByteArray} (hf : ¬ (fndL (allL W) key = false ∧ 100 ≤ (allL W).length)) : fndL W.rows key = true ∨ W.rows.length < 100 := by
 cases e : fndL W.rows key
 ·right
  have hr := (pairsB_rising h.rows).1
  cases e2 : fndL (allL W) key
  ·have := sub_len (all_rising h) hr (fun p hp => all_rows h hp)
   have h3 : ¬ 100 ≤ (allL W).length := fun h3 => hf ⟨e2, h3⟩
   omega
  ·have := sub_less (all_rising h) hr (fun p hp => all_rows h hp) e2 e
   have := h.all
   omega
 ·exact .inl rfl
end
end Go.Proofs.YtpbaobmegomfpabGreatDoor
namespace Go.Proofs.YtpbaobmegomfpabGreatDoor
open Go.RowKit
end Go.Proofs.YtpbaobmegomfpabGreatDoor
namespace Go.Proofs.YtpbaobmegomfpabGreatDoor
open Go.RowKit
theorem allF_cons (out : PL) (p : ByteArray × ByteArray) (l : PL) : allF out (p :: l) = allF (plusL out p.1 ⟨#[]⟩) l := rfl
def AllBox (w : World) (r s : Value) (wr : World) : Prop := RowTo wr w.heap.size 39 2 [r, s]
def restOf (ss : List Sess) (i : Nat) : PL := (ss.drop i).flatMap (·.wr)
theorem restOf_step {ss : List Sess} {i : Nat} (h : i < ss.length) : restOf ss i = ss[i].wr ++ restOf ss (i + 1) := by
 unfold restOf; rw [List.drop_eq_getElem_cons h]; rfl
theorem restOf_end {ss : List Sess} {i : Nat} (h : ss.length ≤ i) : restOf ss i = [] := by
 unfold restOf; rw [List.drop_eq_nil_of_le h]; rfl
end Go.Proofs.YtpbaobmegomfpabGreatDoor
namespace Go.Proofs.YtpbaobmegomfpabGreatDoor
open Go.RowKit Go.Maps Go.WideMaps
theorem strLaw : Keyed Tryz.prog 9 := string_keyed Tryz.underlying9
theorem zeroInt (w : World) : (zeroValue 3).run Tryz.prog w = .ok (.int .i64 0) w := by kernel_rfl
theorem klKey {s : ByteArray} (h : s.size ≤ 140737488351232) : keyOf Tryz.prog 9 (.string s) = some (kl s) := keyOf_string_mk Tryz.underlying9 (by unfold maxLen; omega)
theorem lit_inj {a b : Int} (h : (DataW.lit (.int .i64 a) : DataW Unit) = .lit (.int .i64 b)) : a = b := by simpa using h
def RowsRel (w : World) (W : Wd) (r s : Value) (k : Nat) (wr : World) : Prop :=
 ∃ D : DataW Unit, wr.ownsMap Tryz.prog 9 (plainElem Tryz.prog 3) (w.heap.size + 1) k D ∧ MapOk D (W.rows.take k) (fun _ => 0) ∧ AllBox w r s wr ∧ Below w.heap.size w wr
def CntRel (w : World) (W : Wd) (r s : Value) (rest : PL) (n : Nat) (wr : World) : Prop :=
 ∃ (D : DataW Unit) (R : PL) (cnt : ByteArray → Nat), wr.ownsMap Tryz.prog 9 (plainElem Tryz.prog 3) (w.heap.size + 1) n D ∧ MapOk D R cnt ∧ risingB R = true ∧ allF R rest = allL W ∧
  (∀ key, cnt key + cntL rest key = cntL (W.ss.flatMap (·.wr)) key) ∧ (∀ key, cnt key ≤ n) ∧ AllBox w r s wr ∧ Below w.heap.size w wr
theorem box_grown {w wr w1 : World} {r s : Value} (h : AllBox w r s wr) (hg : wr.grownBy w1 (some (w.heap.size + 1))) : AllBox w r s w1 := h.same (hg.block _ h.lt (by simp))
theorem bel_grown {w wr w1 : World} (h : Below w.heap.size w wr) (hg : wr.grownBy w1 (some (w.heap.size + 1))) : Below w.heap.size w w1 := h.grown hg h.size (fun k hk => by injection hk with hk; omega)
def CountPost (w : World) (W : Wd) (e : Ending) (w' : World) : Prop :=
 ∃ (b n : Nat) (D : DataW Unit), e = .returned (.map (some b)) ∧ w'.ownsMap Tryz.prog 9 (plainElem Tryz.prog 3) b n D ∧ MapOk D (allL W) (cntL (W.ss.flatMap (·.wr))) ∧ n ≤ 1000 ∧ w.heap.size ≤ b ∧ Below w.heap.size w w'
set_option maxHeartbeats 4000000 in
theorem countWriters_any (r s : Value) (W : Wd) (w : World) (hW : Wld w w.heap.size r s W) (hr100 : W.rows.length ≤ 100) (hrise : risingB W.rows = true) (h8 : W.ss.length ≤ 8) (hw100 : ∀ i (hi : i < W.ss.length), W.ss[i].wr.length ≤ 100) :
  Calls Tryz.prog 97 #[.agg #[r, s]] w (CountPost w W) := by
 obtain ⟨hr, hs⟩ := hW
 obtain ⟨A, c, rfl, hc⟩ := hs.form
 obtain ⟨D, d, rfl, hd⟩ := hr.form
 have hby := hs.bytes
 have HS := hD hs
 have HR := hD hr
 have HN := hD hw100
 have HI := hD hrise
 clear hs hr hw100 hrise
 have hmm := @run_makeMap Tryz.prog
 go_enter Tryz.func97, Tryz.ntmps97
 go_wp2
 clear hmm
 go_loopw [14] (fun i wr => ∃ k : Nat, k ≤ W.rows.length ∧ i = .int .i64 k ∧ RowsRel w W (.slice D W.rows.length d) (.slice A W.ss.length c) k wr) (fun i _ => W.rows.length - (intOf i).toNat)
 case atStart =>
  refine ⟨0, by omega, rfl, .map [], ?_, mapOk_empty, (RowTo.whole w #[.slice D W.rows.length d, .slice A W.ss.length c] 39).alloc _, ?_⟩
  ·have := World.ownsMap_made (H := Unit) (w.alloc (.cells #[.slice D W.rows.length d, .slice A W.ss.length c] 39)) Tryz.prog 9 (plainElem Tryz.prog 3)
   simpa using this
  ·repeat' (first | exact Below.refl _ _ | assumption | with_reducible refine below_drewN ?_ _ | with_reducible refine Below.drew ?_ | with_reducible refine Below.setCell ?_ ?_ _ | with_reducible refine Below.alloc ?_ ?_ _ | (simp; done) | (simp; omega))
 case round =>
  obtain ⟨k, hk, rfl, M, hown, hmap, hbox, bel⟩ := hrel
  by_cases hlt : k < W.rows.length
  ·obtain ⟨b, off, rfl, hb, c0, c1⟩ := HR.out.pt hlt
   obtain ⟨z0, z1⟩ := HR.out.key hlt
   have d0 := (bel.cell (p := ⟨b, off + k * 2, none⟩) hb).trans c0
   have d1 := (bel.cell (p := ⟨b, off + k * 2 + 1, none⟩) hb).trans c1
   have hkey := klKey z0
   have HP := hD (mapOk_put (k := W.rows[k].1) (v := W.rows[k].2) (c := 0) hmap (hown.tidy strLaw) (rising_take HI.out k) trivial)
   have HT := hD (ins_take HI.out hlt)
   have HO := hD hown
   have HX := hD hbox
   have HB := hD bel
   clear hown hmap hbox bel c0 c1
   go_wp2_with (first
    | (at_mapUpdate; refine wpList_mapUpdate_own _ rfl _ _ _ 162 rfl 9 3 strLaw Tryz.underlying162 _ (w.heap.size + 1) k _ rfl (HO.out.alloc _) (by unfold maxLen; omega) _ _ _ rfl rfl hkey _ [] (plainElem_int Tryz.underlying3 (WalkArith.wf_i64 (by omega))) ?_; intro w1 hown1 hgrow1)
    | go_in)
   have HO1 := hD hown1
   have hg := (World.grownBy_alloc wr (.cells #[.string W.rows[k].1, .string W.rows[k].2] 60) (some (w.heap.size + 1))).trans hgrow1
   have HX1 := hD (box_grown HX.out hg)
   have HB1 := hD (bel_grown HB.out hg)
   clear hown1 hgrow1 hg
   go_roundw
   case rel =>
    refine ⟨k + 1, by omega, by go_num, _, HO1.out, ?_, HX1.out, HB1.out⟩
    rw [← HT.out]
    exact HP.out.cnt (fun key => by split <;> rfl)
   case measure => simp [intOf]; omega
  ·obtain rfl : k = W.rows.length := by omega
   have x1 := hbox.cell (j := 1) (by simp)
   simp only [gCZ, gCS] at x1
   rw [List.take_length] at hmap
   have HO := hD (hown.mono hr100)
   have HM := hD hmap
   have HX := hD hbox
   have HB := hD bel
   clear hown hmap hbox bel
   go_wp2
   go_loopw [25] (fun i wr => ∃ k : Nat, k ≤ W.ss.length ∧ i = .int .i64 k ∧ CntRel w W (.slice D W.rows.length d) (.slice A W.ss.length c) (restOf W.ss k) (100 + k * 100) wr) (fun i _ => W.ss.length - (intOf i).toNat)
   case atStart => exact ⟨0, by omega, rfl, M, W.rows, _, HO.out, HM.out, HI.out, rfl, fun key => by rw [Nat.zero_add]; rfl, fun key => Nat.zero_le _, HX.out, HB.out⟩
   case round =>
    clear HO HM HX HB x1
    obtain ⟨i, hi, rfl, M, R, cnt, hown, hmap, hrR, hall, hcnt, hcb, hbox, bel⟩ := hrel
    by_cases hlt : i < W.ss.length
    ·obtain ⟨b, off, v1, v2, v3, v4, rfl, hb, hses⟩ := HS.out.pt hlt
     have h100 := HN.out i hlt
     have hall' : allF R (W.ss[i].wr.drop 0 ++ restOf W.ss (i + 1)) = allL W := by rw [List.drop_zero, ← restOf_step hlt]; exact hall
     have hcnt' : ∀ key, cnt key + cntL (W.ss[i].wr.drop 0 ++ restOf W.ss (i + 1)) key = cntL (W.ss.flatMap (·.wr)) key := fun key => by rw [List.drop_zero, ← restOf_step hlt]; exact hcnt key
     generalize hsk : W.ss[i] = s at *
     obtain ⟨d0, d1, d2, d3, d4, l1, l2, l3, l4⟩ := hses.keep (w' := wr) hb (nL _) fun p hp => bel.cell hp
     obtain ⟨A1, c1, rfl, _⟩ := l1.form
     obtain ⟨A2, c2, rfl, _⟩ := l2.form
     obtain ⟨A3, c3, rfl, _⟩ := l3.form
     obtain ⟨A4, c4, rfl, _⟩ := l4.form
     have hb4 := l4.bytes
     have HL := hD hses.l4
     have HO := hD (hown.alloc (.cells #[.int .i64 s.st, .slice A1 s.set.length c1, .slice A2 s.prep.length c2, .slice A3 s.sav.length c3, .slice A4 s.wr.length c4] 115))
     have HM := hD hmap
     have HRR := hD hrR
     have HA := hD hall'
     have HC := hD hcnt'
     have HCB := hD hcb
     have HX := hD (RowTo.alloc hbox (.cells #[.int .i64 s.st, .slice A1 s.set.length c1, .slice A2 s.prep.length c2, .slice A3 s.sav.length c3, .slice A4 s.wr.length c4] 115))
     have HB := hD (bel.alloc bel.size (.cells #[.int .i64 s.st, .slice A1 s.set.length c1, .slice A2 s.prep.length c2, .slice A3 s.sav.length c3, .slice A4 s.wr.length c4] 115))
     clear hown hmap hrR hall hall' hcnt hcnt' hcb hbox bel hses hsk l1 l2 l3 l4
     go_wp2
     clear d0 d1 d2 d3 d4
     go_loopw [32] (fun j wr => ∃ k : Nat, k ≤ s.wr.length ∧ j = .int .i64 k ∧ CntRel w W (.slice D W.rows.length d) (.slice (some ⟨b, off, none⟩) W.ss.length c) (s.wr.drop k ++ restOf W.ss (i + 1)) (100 + i * 100 + k) wr) (fun j _ => s.wr.length - (intOf j).toNat)
     case atStart => exact ⟨0, by omega, rfl, M, R, cnt, HO.out, HM.out, HRR.out, HA.out, HC.out, HCB.out, HX.out, HB.out⟩
     case round =>
      clear HO HM HRR HA HC HCB HX HB
      obtain ⟨k, hk, rfl, M, R, cnt, hown, hmap, hrR, hall, hcnt, hcb, hbox, bel⟩ := hrel
      by_cases hlk : k < s.wr.length
      ·obtain ⟨b', off', rfl, hb', m0, m1⟩ := HL.out.pt hlk
       obtain ⟨z0, z1⟩ := HL.out.key hlk
       have d0 := (bel.cell (p := ⟨b', off' + k * 2, none⟩) hb').trans m0
       have d1 := (bel.cell (p := ⟨b', off' + k * 2 + 1, none⟩) hb').trans m1
       have hkey := klKey z0
       have hce := hcb s.wr[k].1
       have HD := hD (List.drop_eq_getElem_cons hlk)
       have HP := hD (fun cc => mapOk_put (k := s.wr[k].1) (v := ⟨#[]⟩) (c := cc) hmap (hown.tidy strLaw) hrR trivial)
       have HRR := hD (ins_rising (k := s.wr[k].1) (v := ⟨#[]⟩) hrR)
       have HPI := hD (plus_ins (k := s.wr[k].1) (v := ⟨#[]⟩) hrR)
       have HAT := hD (hmap.at_ s.wr[k].1)
       have HO := hD hown
       have HA := hD hall
       have HC := hD hcnt
       have HCB := hD hcb
       have HX := hD hbox
       have HB := hD bel
       clear hown hmap hrR hall hcnt hcb hbox bel m0 m1
       go_wp2_with (first
        | (at_lookup; refine wpList_lookup_own_int _ rfl _ _ 162 rfl 9 3 .i64 strLaw Tryz.underlying162 Tryz.underlying3 (zeroInt _) (w.heap.size + 1) (100 + i * 100 + k) _ rfl (HO.out.alloc _) _ _ rfl hkey ?_; intro q hat hwq; obtain rfl : q = (cnt s.wr[k].1 : Int) := (lit_inj (HAT.out.symm.trans hat)).symm; clear hat hwq)
        | (at_mapUpdate; refine wpList_mapUpdate_own _ rfl _ _ _ 162 rfl 9 3 strLaw Tryz.underlying162 _ (w.heap.size + 1) (100 + i * 100 + k) _ rfl (HO.out.alloc _) (by unfold maxLen; omega) _ _ _ rfl rfl hkey _ [] (plainElem_int Tryz.underlying3 (WalkArith.wf_i64 (by omega))) ?_; intro w1 hown1 hgrow1)
        | go_in)
       have HO1 := hD hown1
       have hg := (World.grownBy_alloc wr (.cells #[.string s.wr[k].1, .string s.wr[k].2] 60) (some (w.heap.size + 1))).trans hgrow1
       have HX1 := hD (box_grown HX.out hg)
       have HB1 := hD (bel_grown HB.out hg)
       clear hown1 hgrow1 hg
       go_roundw
       case rel =>
        refine ⟨k + 1, by omega, by go_num, _, insL R s.wr[k].1 ⟨#[]⟩, _, HO1.out, by have := HP.out (cnt s.wr[k].1 + 1); simpa using this, HRR.out, ?_, fun key => ?_, fun key => ?_, HX1.out, HB1.out⟩
        ·rw [← HA.out, HD.out, List.cons_append, allF_cons, HPI.out]
        ·rw [← HC.out key, HD.out, List.cons_append, cntL_cons]
         cases e : eqB s.wr[k].1 key
         ·simp
         ·rw [eqB_iff.1 e]; simp; omega
        ·have := HCB.out key
         split <;> omega
       case measure => simp [intOf]; omega
      ·rw [List.drop_eq_nil_of_le (by omega), List.nil_append] at hall hcnt
       have HO := hD (hown.mono (n' := 100 + (i + 1) * 100) (by omega))
       have HM := hD hmap
       have HRR := hD hrR
       have HA := hD hall
       have HC := hD hcnt
       have HCB := hD (fun key => Nat.le_trans (hcb key) (show 100 + i * 100 + k ≤ 100 + (i + 1) * 100 by omega))
       have HX := hD hbox
       have HB := hD bel
       clear hown hmap hrR hall hcnt hcb hbox bel
       go_wp2
       go_roundw
       case rel => exact ⟨i + 1, by omega, by go_num, M, R, cnt, HO.out, HM.out, HRR.out, HA.out, HC.out, HCB.out, HX.out, HB.out⟩
       case measure => simp [intOf]; omega
    ·rw [restOf_end (by omega)] at hall hcnt
     have HM := hD (hmap.cnt (cnt' := cntL (W.ss.flatMap (·.wr))) (fun key => by have h := hcnt key; rw [cntL_nil] at h; exact h))
     have HA := hD (show R = allL W from hall)
     have HO := hD hown
     have HB := hD bel
     clear hown hmap hrR hall hcnt hcb hbox bel
     go_wp2
     go_ret
     exact ⟨w.heap.size + 1, _, M, rfl, HO.out, by rw [← HA.out]; exact HM.out, by omega, by omega, HB.out⟩
end Go.Proofs.YtpbaobmegomfpabGreatDoor
namespace Go.Proofs.YtpbaobmegomfpabGreatDoor
open Go.RowKit Go.Maps Go.WideMaps
theorem store_ok (g c pb po : Nat) (l : PL) (k : Int) (key val : ByteArray) (limit : Nat) (w : World) (ho : OwnL w g c l) (hr : risingB l = true) (hn : l.length ≤ 1000) (hs : Sz l)
  (hp : w.cell? ⟨pb, po, none⟩ = some (.slice (some ⟨g, 0, none⟩) l.length c)) (hpf : w.frozen? ⟨pb, po, none⟩ = false) (hne : pb ≠ g) (hk : key.size ≤ 140737488351232) (hv : val.size ≤ 140737488351232) (hf : fndL l key = true ∨ l.length < limit) :
  Calls Tryz.prog 70 #[.pointer (some ⟨pb, po, none⟩), .agg #[.int .i64 k, .string key, .string val], .int .i64 limit] w (StorePost w g pb po (insL l key val)) := by
 cases e : fndL l key
 ·exact store_room g c pb po l k key val limit w ho hr hn hs hp hpf hne hk hv e (hf.resolve_left (by simp [e]))
 ·exact store_found g c pb po l k key val limit w ho hr hn hs hp hpf hne hk hv e
theorem OwnD.wld {w : World} {X S gR cR : Nat} {G C : Nat → Nat → Nat} {W : Wd} (h : OwnD w X S gR cR G C W) (hz : SzW W) : Wld w w.heap.size (slc gR W.rows.length cR) (slc S W.ss.length W.ss.length) W := by
 refine ⟨h.rows.lst (by have := hz.rows.1; omega) hz.rows.sz, ⟨⟨_, _, rfl, nL _⟩, by have := hz.many; omega, fun hn => ⟨S, 0, W.ss.length, rfl, h.blk.lt, fun i hi => ?_⟩⟩⟩
 rw [Nat.zero_add]
 exact ⟨_, _, _, _, h.st i hi, h.cs i 0 hi (by omega), h.cs i 1 hi (by omega), h.cs i 2 hi (by omega), h.cs i 3 hi (by omega), h.list hz hi (j := 0) (by omega), h.list hz hi (j := 1) (by omega), h.list hz hi (j := 2) (by omega), h.list hz hi (j := 3) (by omega)⟩
theorem OwnD.stored {w w' : World} {base X S gR cR : Nat} {G C : Nat → Nat → Nat} {W : Wd} (h : OwnD w X S gR cR G C W) (lo : LoD base X S gR G W.ss.length) {g' : Nat} (hlg : base ≤ g') (hz : SzW W) {i : Nat} (hi : i < W.ss.length) {j : Nat} (hj : j < 4) {l' : PL} {c' : Nat} {s' : Sess} (hl' : l'.length ≤ 1000) (hs' : Sz l')
  (ho : OwnL w' g' c' l') (hc : Chg w w' (G i j) S (i * 5 + (j + 1)) (.slice (some ⟨g', 0, none⟩) l'.length c')) (hst : s'.st = W.ss[i].st) (hli : ∀ k, k < 4 → s'.li k = if k = j then l' else W.ss[i].li k) : EndW w' base X S (W.put i s') := by
 have ne := h.neGS i j hi hj
 have cc : ∀ k, w'.cell? ⟨S, k, none⟩ = (w.setCell ⟨S, i * 5 + (j + 1), none⟩ (.slice (some ⟨g', 0, none⟩) l'.length c')).cell? ⟨S, k, none⟩ := fun k => World.cell?_of_block hc.here
 have hblk : RowTo w' S 115 (W.ss.length * 5) [] := (h.blk.hit (j := i * 5 + (j + 1)) _).same hc.here
 have cell : ∀ k, k < 4 → ∃ v, w'.cell? ⟨S, i * 5 + (k + 1), none⟩ = some v ∧ Lst w' w'.heap.size v (s'.li k) ∧ LoV base v := fun k hk => by
  rw [hli k hk]
  by_cases e : k = j
  ·subst e
   rw [if_pos rfl]
   exact ⟨_, (cc _).trans (cell_put h.blk (by omega) _), ho.lst hl' hs', LoV.at hlg⟩
  ·rw [if_neg e]
   refine ⟨_, (cc _).trans ((cell_off _ (by omega)).trans (h.cs i k hi hk)), ?_, lo.v hi hk⟩
   exact ((h.ls i k hi hk).same (hc.other _ (h.ls i k hi hk).row.lt (fun e' => e (h.inj i k i j hi hk hi hj e').2) (h.neGS i k hi hk))).lst (by have := (hz.li i k hi hk).1; omega) (hz.li i k hi hk).sz
 obtain ⟨v1, d1, m1, o1⟩ := cell 0 (by omega)
 obtain ⟨v2, d2, m2, o2⟩ := cell 1 (by omega)
 obtain ⟨v3, d3, m3, o3⟩ := cell 2 (by omega)
 obtain ⟨v4, d4, m4, o4⟩ := cell 3 (by omega)
 refine h.left lo (LoV.slc lo.r) ⟨o1, o2, o3, o4⟩ hz hi hc.size (h.box.same (hc.other X h.box.lt (Ne.symm (h.neGX i j hi hj)) h.neXS)) hblk ((h.rows.same (hc.other gR h.rows.row.lt (Ne.symm (h.neGR i j hi hj)) h.neRS)).lst (by have := hz.rows.1; omega) hz.rows.sz)
  (fun k q hk hq => (cc _).trans (cell_off _ (by omega))) (fun k q hk hne hq => hc.other _ (h.ls k q hk hq).row.lt (fun e' => hne (h.inj k q i j hk hq hi hj e').1) (h.neGS k q hk hq)) ⟨(cc _).trans ((cell_off _ (by omega)).trans (by rw [hst]; exact h.st i hi)), d1, d2, d3, d4, m1, m2, m3, m4⟩
theorem cell_set3' {w : World} {b R i : Nat} {u x y z : Value} (h : w.cell? ⟨b, i, none⟩ = some u) (hne : b ≠ R) :
  (((w.setCell ⟨R, 0, none⟩ x).setCell ⟨R, 1, none⟩ y).setCell ⟨R, 2, none⟩ z).cell? ⟨b, i, none⟩ = some u := by
 simp [go_sem, h]
theorem OwnD.storedR {w w' : World} {base X S gR cR : Nat} {G C : Nat → Nat → Nat} {W : Wd} (h : OwnD w X S gR cR G C W) (lo : LoD base X S gR G W.ss.length) {g' : Nat} (hlg : base ≤ g') (hz : SzW W) {i : Nat} (hi : i < W.ss.length) {l' : PL} {c' : Nat} (hl' : l'.length ≤ 1000) (hs' : Sz l')
  (ho : OwnL w' g' c' l') (hc : Chg w w' gR X 0 (.slice (some ⟨g', 0, none⟩) l'.length c')) : EndW w' base X S ⟨l', W.ss⟩ := by
 have hS : w'.heap[S]? = w.heap[S]? := hc.other S h.blk.lt (Ne.symm h.neRS) (Ne.symm h.neXS)
 have cS : ∀ k, w'.cell? ⟨S, k, none⟩ = w.cell? ⟨S, k, none⟩ := fun k => World.cell?_of_block hS
 have hL : ∀ k j, k < W.ss.length → j < 4 → w'.heap[G k j]? = w.heap[G k j]? := fun k j hk hj => hc.other _ (h.ls k j hk hj).row.lt (h.neGR k j hk hj) (h.neGX k j hk hj)
 have ll : ∀ j, j < 4 → Lst w' w'.heap.size (slc (G i j) (W.ss[i].li j).length (C i j)) (W.ss[i].li j) := fun j hj => ((h.ls i j hi hj).same (hL i j hi hj)).lst (by have := (hz.li i j hi hj).1; omega) (hz.li i j hi hj).sz
 have hb := (h.box.put (j := 0) (by simp) (.slice (some ⟨g', 0, none⟩) l'.length c')).same hc.here
 have := h.left lo (LoV.at hlg) ⟨lo.v hi (j := 0) (by omega), lo.v hi (j := 1) (by omega), lo.v hi (j := 2) (by omega), lo.v hi (j := 3) (by omega)⟩ hz hi (s' := W.ss[i]) (rows' := l') hc.size hb (h.blk.same hS) (ho.lst hl' hs') (fun k j _ _ => cS _) (fun k j hk _ hj => hL k j hk hj)
  ⟨(cS _).trans (h.st i hi), (cS _).trans (h.cs i 0 hi (by omega)), (cS _).trans (h.cs i 1 hi (by omega)), (cS _).trans (h.cs i 2 hi (by omega)), (cS _).trans (h.cs i 3 hi (by omega)), ll 0 (by omega), ll 1 (by omega), ll 2 (by omega), ll 3 (by omega)⟩
 rwa [List.set_getElem_self] at this
theorem Chg.pull {w w8 w' : World} {g pb po : Nat} {v : Value} (hb : Below w.heap.size w w8) (hp : pb < w.heap.size) (c : Chg w8 w' g pb po v) : Chg w w' g pb po v :=
 ⟨c.os.trans hb.os, c.tape.trans hb.tape, c.output.trans hb.output, Nat.le_trans hb.size c.size, fun b hbl h1 h2 => (c.other b (by have := hb.size; omega) h1 h2).trans (hb.block b hbl), c.here.trans (setCell_block (p := ⟨pb, po, none⟩) (hb.block pb hp))⟩
theorem Chg.setN {w w' : World} {g pb po : Nat} {v : Value} (c : Chg w w' g pb po v) {p : Addr} (hp : w.heap.size ≤ p.block) (hpb : pb < w.heap.size) (u : Value) : Chg w (w'.setCell p u) g pb po v :=
 ⟨c.os, c.tape, c.output, by simpa [World.setCell] using c.size, fun b hb h1 h2 => (Below.heap_setCell _ _ _ _ (by omega)).trans (c.other b hb h1 h2), (Below.heap_setCell _ _ _ _ (by omega)).trans c.here⟩
theorem Chg.bel {w w' : World} {g pb po base : Nat} {v : Value} (c : Chg w w' g pb po v) (h1 : base ≤ g) (h2 : base ≤ pb) (hw : base ≤ w.heap.size) : Below base w w' :=
 ⟨c.os, c.tape, c.output, c.size, fun k hk => c.other k (by omega) (by omega) (by omega)⟩
end Go.Proofs.YtpbaobmegomfpabGreatDoor
namespace Go.Proofs.YtpbaobmegomfpabGreatDoor
open Go.RowKit Go.Maps Go.WideMaps
set_option maxHeartbeats 4000000 in
theorem put_held (base X S gR cR : Nat) (G C : Nat → Nat → Nat) (W : Wd) (i : Nat) (key val : ByteArray) (w : World) (h : OwnD w X S gR cR G C W) (lo : LoD base X S gR G W.ss.length) (hw : WorldOk W) (hb : base ≤ w.heap.size) (hi : i < W.ss.length) (hkz : key.size ≤ 8) (hvz : val.size ≤ 60) (hh : heldB W.ss i key = true) :
  Calls Tryz.prog 71 #[.pointer (some ⟨X, 0, none⟩), .int .i64 i, .agg #[.int .i64 10, .string key, .string val]] w fun e w' => e = .returned (ansV 4 tHeld) ∧ Below w.heap.size w w' := by
 have hcn := (held_cnt hw hi key).symm
 rw [hh] at hcn
 rw [Bool.and_eq_true, decide_eq_true_eq, Bool.not_eq_true'] at hcn
 have HOWN := hD hcn.2
 have hpos := hcn.1
 clear hcn hh
 have hz := worldOk_sz hw
 have hXw := h.box.lt
 have hSw := h.blk.lt
 have hpr := pairsB_rising hw.rows
 have HCW := hD (fun (w9 : World) (h9 : Wld w9 w9.heap.size (slc gR W.rows.length cR) (slc S W.ss.length W.ss.length) W) => countWriters_any _ _ W w9 h9 hpr.2.1 hpr.1 hw.many (fun j hj => (pairsB_rising (hw.sess j hj).wr).2.1))
 have HWR := hD ((pairsB_rising (hw.sess i hi).wr).1)
 have b0 : Below w.heap.size w ((w.alloc (.cells #[.int .i64 10, .string key, .string val] 41)).alloc (.cells #[.int .i64 0, .string ⟨#[]⟩, .int .i64 0] 46)) := ((Below.refl _ _).alloc (nL _) _).alloc (by simp) _
 have h0 := h.kept b0
 have x0 := h.box.cell (j := 0) (by simp)
 have x1 := h.box.cell (j := 1) (by simp)
 simp only [gCZ, gCS] at x0 x1
 unfold slc at x0 x1
 have X0 : RowTo ((w.alloc (.cells #[.int .i64 10, .string key, .string val] 41)).alloc (.cells #[.int .i64 0, .string ⟨#[]⟩, .int .i64 0] 46)) (w.heap.size + 1) 46 3 [.int .i64 0, .string ⟨#[]⟩, .int .i64 0] := by
  have := RowTo.whole (w.alloc (.cells #[.int .i64 10, .string key, .string val] 41)) #[.int .i64 0, .string ⟨#[]⟩, .int .i64 0] 46
  simpa using this
 have Y0 : RowTo ((w.alloc (.cells #[.int .i64 10, .string key, .string val] 41)).alloc (.cells #[.int .i64 0, .string ⟨#[]⟩, .int .i64 0] 46)) w.heap.size 41 3 [.int .i64 10, .string key, .string val] := (RowTo.whole w #[.int .i64 10, .string key, .string val] 41).alloc _
 have hzs : ((w.alloc (.cells #[.int .i64 10, .string key, .string val] 41)).alloc (.cells #[.int .i64 0, .string ⟨#[]⟩, .int .i64 0] 46)).heap.size = w.heap.size + 1 + 1 := by simp
 have hkey := klKey (s := key) (by omega)
 have hii : (i : Int) < (W.ss.length : Int) := by omega
 have H := hD h
 have H0 := hD h0
 have HZ := hD hz
 have HW := hD hw
 have B0 := hD b0
 have HX0 := hD X0
 have HY0 := hD Y0
 have HZS := hD hzs
 clear h h0 hz hw b0 X0 Y0 hzs hpr
 go_enter Tryz.func71, Tryz.ntmps71
 go_wp2_with fail
 refine (HCW.out _ (H0.out.wld HZ.out)).mono ?_
 rintro e w1 ⟨bm, n, M, rfl, hown, hmap, hn, hbm, hb1⟩
 have hs1 := hb1.size
 have H1 := hD (H0.out.kept hb1)
 have B1 := hD (bel_add' B0.out hb1 B0.out.size)
 have X1 := hD (HX0.out.below hb1 HX0.out.lt)
 have Y1 := HY0.out.below hb1 HY0.out.lt
 have q1 := Y1.cell (j := 1) (by simp)
 simp only [gCZ, gCS] at q1
 have HY1 := hD Y1
 have HO := hD hown
 have HM := hD hmap
 have HAT := hD (hmap.at_ key)
 have hhas : Maps.has M (kl key) = fndL (allL W) key := hmap.has key
 have hsize : Maps.size M = (allL W).length := hmap.size
 rw [HZS.out] at hs1
 have hbm' : w.heap.size + 1 + 1 ≤ bm := by rw [HZS.out] at hbm; exact hbm
 clear hown hmap hb1 Y1 x0 x1 hbm
 have g1 : decide ((0 : Int) < (cntL (W.ss.flatMap (·.wr)) key : Int)) = true := decide_eq_true (by omega)
 have g2 : decide (0 < cntL (W.ss.flatMap (·.wr)) key) = true := decide_eq_true hpos
 go_wp2_with (first
  | (at_lookup; refine wpList_lookup_own_ok_int _ rfl _ _ 162 rfl 9 3 .i64 strLaw Tryz.underlying162 Tryz.underlying3 (zeroInt _) bm n _ rfl HO.out _ _ rfl hkey ?_; intro q hat hwq; obtain rfl : q = (cntL (W.ss.flatMap (·.wr)) key : Int) := (lit_inj (HAT.out.symm.trans hat)).symm; clear hat hwq)
  | go_in)
 have q4 : w1.cell? ⟨S, i * 5 + 4, none⟩ = some (.slice (some ⟨G i 3, 0, none⟩) W.ss[i].wr.length (C i 3)) := H1.out.cs i 3 hi (by omega)
 have hl4 := hD (show Lst w1 w1.heap.size (.slice (some ⟨G i 3, 0, none⟩) W.ss[i].wr.length (C i 3)) W.ss[i].wr from H1.out.list HZ.out hi (j := 3) (by omega))
 have hz0 : w.heap.size < w1.heap.size := by omega
 have hz1 : S < w1.heap.size := H1.out.blk.lt
 have kb := Below.refl w1.heap.size w1
 have dS := hD (show w1.drew.cell? ⟨S, i * 5 + 4, none⟩ = some (.slice (some ⟨G i 3, 0, none⟩) W.ss[i].wr.length (C i 3)) ∧ w1.drew.cell? ⟨w.heap.size, 1, none⟩ = some (.string key) from ⟨q4, q1⟩)
 go_region_held3 (fun wx => wx.cell? ⟨S, i * 5 + 4, none⟩ = some (.slice (some ⟨G i 3, 0, none⟩) W.ss[i].wr.length (C i 3)) ∧ wx.cell? ⟨w.heap.size, 1, none⟩ = some (.string key))
  (first
   | with_reducible exact ⟨q4, q1⟩
   | with_reducible exact dS.out
   | with_reducible exact ⟨(kb.cell (p := ⟨S, i * 5 + 4, none⟩) hz1).trans q4, (kb.cell (p := ⟨w.heap.size, 1, none⟩) hz0).trans q1⟩)
  (first
   | (
    go_at_call 95
    refine (place_any _ W.ss[i].wr key _ (by first | exact hl4.out | exact (hl4.out.step ((Below.refl _ _).drew)) | exact (hl4.out.step (below_drewN (Below.refl _ _) _))) HWR.out).mono ?_
    rw [HOWN.out]
    rintro e w8 ⟨rfl, hy⟩
    have kb : Below w1.heap.size w1 w8 := by first | exact kb.trans (hy.mono kb.size) | exact kb.trans ⟨hy.os, hy.tape, hy.output, hy.size, fun i hi => hy.block i (Nat.lt_of_lt_of_le hi kb.size)⟩))
 have hs8 := kb.size
 have H8 := hD (H1.out.kept kb)
 have B8 := hD (bel_add' B1.out kb B1.out.size)
 have X8 := hD (X1.out.below kb X1.out.lt)
 have Y8 := hD (HY1.out.below kb HY1.out.lt)
 have O8 := hD (HO.out.kept (grown_of_below kb none) (by simp))
 clear kb q1 q4 dS
 go_wp2_with fail
 refine (failure_any tHeld _).mono ?_
 rintro e w9 ⟨rfl, hb9⟩
 have X9 := X8.out.below hb9 X8.out.lt
 have r0 := X9.cell (j := 0) (by simp)
 have r1 := X9.cell (j := 1) (by simp)
 have r2 := X9.cell (j := 2) (by simp)
 have s0 := X9.frozen 0
 have s1 := X9.frozen 1
 have s2 := X9.frozen 2
 simp only [gCZ, gCS] at r0 r1 r2
 have B9 := hD (bel_add' B8.out hb9 B8.out.size)
 clear X9 hb9
 unfold ansV
 go_wp2
 refine bodyPost_ret (v := .agg #[.int .i64 4, .string tHeld, .int .i64 0]) (by simp [results, Tryz.results71, go_sem, r0, r1, r2]) rfl ⟨rfl, ?_⟩
 exact ((B9.out.setCell (by simp) _).setCell (by simp) _).setCell (by simp) _
end Go.Proofs.YtpbaobmegomfpabGreatDoor
namespace Go.Proofs.YtpbaobmegomfpabGreatDoor
open Go.RowKit Go.Maps Go.WideMaps
set_option maxHeartbeats 4000000 in
theorem put_full_none (base X S gR cR : Nat) (G C : Nat → Nat → Nat) (W : Wd) (i : Nat) (key val : ByteArray) (w : World) (h : OwnD w X S gR cR G C W) (lo : LoD base X S gR G W.ss.length) (hw : WorldOk W) (hb : base ≤ w.heap.size) (hi : i < W.ss.length) (hkz : key.size ≤ 8) (hvz : val.size ≤ 60) (hown : fndL W.ss[i].wr key = false) (hc0 : cntL (W.ss.flatMap (·.wr)) key = 0) (hfn : fndL (allL W) key = false) (hfl : 100 ≤ (allL W).length) :
  Calls Tryz.prog 71 #[.pointer (some ⟨X, 0, none⟩), .int .i64 i, .agg #[.int .i64 10, .string key, .string val]] w fun e w' => e = .returned (ansV 4 tFull) ∧ Below w.heap.size w w' := by
 have HOWN := hD hown
 clear hown
 have hz := worldOk_sz hw
 have hXw := h.box.lt
 have hSw := h.blk.lt
 have hpr := pairsB_rising hw.rows
 have HCW := hD (fun (w9 : World) (h9 : Wld w9 w9.heap.size (slc gR W.rows.length cR) (slc S W.ss.length W.ss.length) W) => countWriters_any _ _ W w9 h9 hpr.2.1 hpr.1 hw.many (fun j hj => (pairsB_rising (hw.sess j hj).wr).2.1))
 have HWR := hD ((pairsB_rising (hw.sess i hi).wr).1)
 have b0 : Below w.heap.size w ((w.alloc (.cells #[.int .i64 10, .string key, .string val] 41)).alloc (.cells #[.int .i64 0, .string ⟨#[]⟩, .int .i64 0] 46)) := ((Below.refl _ _).alloc (nL _) _).alloc (by simp) _
 have h0 := h.kept b0
 have x0 := h.box.cell (j := 0) (by simp)
 have x1 := h.box.cell (j := 1) (by simp)
 simp only [gCZ, gCS] at x0 x1
 unfold slc at x0 x1
 have X0 : RowTo ((w.alloc (.cells #[.int .i64 10, .string key, .string val] 41)).alloc (.cells #[.int .i64 0, .string ⟨#[]⟩, .int .i64 0] 46)) (w.heap.size + 1) 46 3 [.int .i64 0, .string ⟨#[]⟩, .int .i64 0] := by
  have := RowTo.whole (w.alloc (.cells #[.int .i64 10, .string key, .string val] 41)) #[.int .i64 0, .string ⟨#[]⟩, .int .i64 0] 46
  simpa using this
 have Y0 : RowTo ((w.alloc (.cells #[.int .i64 10, .string key, .string val] 41)).alloc (.cells #[.int .i64 0, .string ⟨#[]⟩, .int .i64 0] 46)) w.heap.size 41 3 [.int .i64 10, .string key, .string val] := (RowTo.whole w #[.int .i64 10, .string key, .string val] 41).alloc _
 have hzs : ((w.alloc (.cells #[.int .i64 10, .string key, .string val] 41)).alloc (.cells #[.int .i64 0, .string ⟨#[]⟩, .int .i64 0] 46)).heap.size = w.heap.size + 1 + 1 := by simp
 have hkey := klKey (s := key) (by omega)
 have hii : (i : Int) < (W.ss.length : Int) := by omega
 have H := hD h
 have H0 := hD h0
 have HZ := hD hz
 have HW := hD hw
 have B0 := hD b0
 have HX0 := hD X0
 have HY0 := hD Y0
 have HZS := hD hzs
 clear h h0 hz hw b0 X0 Y0 hzs hpr
 go_enter Tryz.func71, Tryz.ntmps71
 go_wp2_with fail
 refine (HCW.out _ (H0.out.wld HZ.out)).mono ?_
 rintro e w1 ⟨bm, n, M, rfl, hown, hmap, hn, hbm, hb1⟩
 have hs1 := hb1.size
 have H1 := hD (H0.out.kept hb1)
 have B1 := hD (bel_add' B0.out hb1 B0.out.size)
 have X1 := hD (HX0.out.below hb1 HX0.out.lt)
 have Y1 := HY0.out.below hb1 HY0.out.lt
 have q1 := Y1.cell (j := 1) (by simp)
 simp only [gCZ, gCS] at q1
 have HY1 := hD Y1
 have HO := hD hown
 have HM := hD hmap
 have HAT := hD (hmap.at_ key)
 have hhas : Maps.has M (kl key) = fndL (allL W) key := hmap.has key
 have hsize : Maps.size M = (allL W).length := hmap.size
 rw [HZS.out] at hs1
 have hbm' : w.heap.size + 1 + 1 ≤ bm := by rw [HZS.out] at hbm; exact hbm
 clear hown hmap hb1 Y1 x0 x1 hbm
 have g1 : decide ((0 : Int) < (cntL (W.ss.flatMap (·.wr)) key : Int)) = false := decide_eq_false (by omega)
 have g2 : decide (0 < cntL (W.ss.flatMap (·.wr)) key) = false := decide_eq_false (by omega)
 rw [hfn] at hhas
 have g3 : decide ((100 : Int) ≤ ((allL W).length : Int)) = true := decide_eq_true (by omega)
 have g4 : decide (100 ≤ (allL W).length) = true := decide_eq_true hfl
 go_wp2_with (first
  | (at_lookup; refine wpList_lookup_own_ok_int _ rfl _ _ 162 rfl 9 3 .i64 strLaw Tryz.underlying162 Tryz.underlying3 (zeroInt _) bm n _ rfl HO.out _ _ rfl hkey ?_; intro q hat hwq; obtain rfl : q = (cntL (W.ss.flatMap (·.wr)) key : Int) := (lit_inj (HAT.out.symm.trans hat)).symm; clear hat hwq)
  | go_in)
 have q4 : w1.cell? ⟨S, i * 5 + 4, none⟩ = some (.slice (some ⟨G i 3, 0, none⟩) W.ss[i].wr.length (C i 3)) := H1.out.cs i 3 hi (by omega)
 have hl4 := hD (show Lst w1 w1.heap.size (.slice (some ⟨G i 3, 0, none⟩) W.ss[i].wr.length (C i 3)) W.ss[i].wr from H1.out.list HZ.out hi (j := 3) (by omega))
 have hz0 : w.heap.size < w1.heap.size := by omega
 have hz1 : S < w1.heap.size := H1.out.blk.lt
 have kb := Below.refl w1.heap.size w1
 have dS := hD (show w1.drew.cell? ⟨S, i * 5 + 4, none⟩ = some (.slice (some ⟨G i 3, 0, none⟩) W.ss[i].wr.length (C i 3)) ∧ w1.drew.cell? ⟨w.heap.size, 1, none⟩ = some (.string key) from ⟨q4, q1⟩)
 go_region_held3 (fun wx => wx.cell? ⟨S, i * 5 + 4, none⟩ = some (.slice (some ⟨G i 3, 0, none⟩) W.ss[i].wr.length (C i 3)) ∧ wx.cell? ⟨w.heap.size, 1, none⟩ = some (.string key))
  (first
   | with_reducible exact ⟨q4, q1⟩
   | with_reducible exact dS.out
   | with_reducible exact ⟨(kb.cell (p := ⟨S, i * 5 + 4, none⟩) hz1).trans q4, (kb.cell (p := ⟨w.heap.size, 1, none⟩) hz0).trans q1⟩)
  (first
   | (
    go_at_call 95
    refine (place_any _ W.ss[i].wr key _ (by first | exact hl4.out | exact (hl4.out.step ((Below.refl _ _).drew)) | exact (hl4.out.step (below_drewN (Below.refl _ _) _))) HWR.out).mono ?_
    rw [HOWN.out]
    rintro e w8 ⟨rfl, hy⟩
    have kb : Below w1.heap.size w1 w8 := by first | exact kb.trans (hy.mono kb.size) | exact kb.trans ⟨hy.os, hy.tape, hy.output, hy.size, fun i hi => hy.block i (Nat.lt_of_lt_of_le hi kb.size)⟩))
 have hs8 := kb.size
 have H8 := hD (H1.out.kept kb)
 have B8 := hD (bel_add' B1.out kb B1.out.size)
 have X8 := hD (X1.out.below kb X1.out.lt)
 have Y8 := hD (HY1.out.below kb HY1.out.lt)
 have O8 := hD (HO.out.kept (grown_of_below kb none) (by simp))
 clear kb q1 q4 dS
 have hlen := O8.out.len (t := 162) (e := 3) Tryz.underlying162
 go_wp2_with fail
 clear hlen
 refine (failure_any tFull _).mono ?_
 rintro e w9 ⟨rfl, hb9⟩
 have X9 := X8.out.below hb9 X8.out.lt
 have r0 := X9.cell (j := 0) (by simp)
 have r1 := X9.cell (j := 1) (by simp)
 have r2 := X9.cell (j := 2) (by simp)
 have s0 := X9.frozen 0
 have s1 := X9.frozen 1
 have s2 := X9.frozen 2
 simp only [gCZ, gCS] at r0 r1 r2
 have B9 := hD (bel_add' B8.out hb9 B8.out.size)
 clear X9 hb9
 unfold ansV
 go_wp2
 refine bodyPost_ret (v := .agg #[.int .i64 4, .string tFull, .int .i64 0]) (by simp [results, Tryz.results71, go_sem, r0, r1, r2]) rfl ⟨rfl, ?_⟩
 exact ((B9.out.setCell (by simp) _).setCell (by simp) _).setCell (by simp) _
end Go.Proofs.YtpbaobmegomfpabGreatDoor
namespace Go.Proofs.YtpbaobmegomfpabGreatDoor
open Go.RowKit Go.Maps Go.WideMaps
set_option maxHeartbeats 4000000 in
theorem put_wr_own (base X S gR cR : Nat) (G C : Nat → Nat → Nat) (W : Wd) (i : Nat) (key val : ByteArray) (w : World) (h : OwnD w X S gR cR G C W) (lo : LoD base X S gR G W.ss.length) (hw : WorldOk W) (hb : base ≤ w.heap.size) (hi : i < W.ss.length) (hkz : key.size ≤ 8) (hvz : val.size ≤ 60) (hown : fndL W.ss[i].wr key = true) (hfn : fndL (allL W) key = true) (hst : W.ss[i].st = 1) :
  Calls Tryz.prog 71 #[.pointer (some ⟨X, 0, none⟩), .int .i64 i, .agg #[.int .i64 10, .string key, .string val]] w (DonePost w base X S gR G W.ss.length (W.put i { W.ss[i] with wr := insL W.ss[i].wr key val })) := by
 have HOWN := hD hown
 have HROOM := hD (room_wr hw hi (key := key) (fun hh => by rw [hfn] at hh; cases hh.1))
 have HPOS := hD (show 0 < cntL (W.ss.flatMap (·.wr)) key by
  have h1 := (some_cnt (key := key) (pairsB_rising (hw.sess i hi).wr).1).2 hown
  have h2 := cnt_one (key := key) hi
  omega)
 have HRR := hD ((pairsB_rising hw.rows).1)
 clear hown
 have hz := worldOk_sz hw
 have hXw := h.box.lt
 have hSw := h.blk.lt
 have hpr := pairsB_rising hw.rows
 have HCW := hD (fun (w9 : World) (h9 : Wld w9 w9.heap.size (slc gR W.rows.length cR) (slc S W.ss.length W.ss.length) W) => countWriters_any _ _ W w9 h9 hpr.2.1 hpr.1 hw.many (fun j hj => (pairsB_rising (hw.sess j hj).wr).2.1))
 have HWR := hD ((pairsB_rising (hw.sess i hi).wr).1)
 have b0 : Below w.heap.size w ((w.alloc (.cells #[.int .i64 10, .string key, .string val] 41)).alloc (.cells #[.int .i64 0, .string ⟨#[]⟩, .int .i64 0] 46)) := ((Below.refl _ _).alloc (nL _) _).alloc (by simp) _
 have h0 := h.kept b0
 have x0 := h.box.cell (j := 0) (by simp)
 have x1 := h.box.cell (j := 1) (by simp)
 simp only [gCZ, gCS] at x0 x1
 unfold slc at x0 x1
 have X0 : RowTo ((w.alloc (.cells #[.int .i64 10, .string key, .string val] 41)).alloc (.cells #[.int .i64 0, .string ⟨#[]⟩, .int .i64 0] 46)) (w.heap.size + 1) 46 3 [.int .i64 0, .string ⟨#[]⟩, .int .i64 0] := by
  have := RowTo.whole (w.alloc (.cells #[.int .i64 10, .string key, .string val] 41)) #[.int .i64 0, .string ⟨#[]⟩, .int .i64 0] 46
  simpa using this
 have Y0 : RowTo ((w.alloc (.cells #[.int .i64 10, .string key, .string val] 41)).alloc (.cells #[.int .i64 0, .string ⟨#[]⟩, .int .i64 0] 46)) w.heap.size 41 3 [.int .i64 10, .string key, .string val] := (RowTo.whole w #[.int .i64 10, .string key, .string val] 41).alloc _
 have hzs : ((w.alloc (.cells #[.int .i64 10, .string key, .string val] 41)).alloc (.cells #[.int .i64 0, .string ⟨#[]⟩, .int .i64 0] 46)).heap.size = w.heap.size + 1 + 1 := by simp
 have hkey := klKey (s := key) (by omega)
 have hii : (i : Int) < (W.ss.length : Int) := by omega
 have H := hD h
 have H0 := hD h0
 have HZ := hD hz
 have HW := hD hw
 have B0 := hD b0
 have HX0 := hD X0
 have HY0 := hD Y0
 have HZS := hD hzs
 clear h h0 hz hw b0 X0 Y0 hzs hpr
 go_enter Tryz.func71, Tryz.ntmps71
 go_wp2_with fail
 refine (HCW.out _ (H0.out.wld HZ.out)).mono ?_
 rintro e w1 ⟨bm, n, M, rfl, hown, hmap, hn, hbm, hb1⟩
 have hs1 := hb1.size
 have H1 := hD (H0.out.kept hb1)
 have B1 := hD (bel_add' B0.out hb1 B0.out.size)
 have X1 := hD (HX0.out.below hb1 HX0.out.lt)
 have Y1 := HY0.out.below hb1 HY0.out.lt
 have q1 := Y1.cell (j := 1) (by simp)
 simp only [gCZ, gCS] at q1
 have HY1 := hD Y1
 have HO := hD hown
 have HM := hD hmap
 have HAT := hD (hmap.at_ key)
 have hhas : Maps.has M (kl key) = fndL (allL W) key := hmap.has key
 have hsize : Maps.size M = (allL W).length := hmap.size
 rw [HZS.out] at hs1
 have hbm' : w.heap.size + 1 + 1 ≤ bm := by rw [HZS.out] at hbm; exact hbm
 clear hown hmap hb1 Y1 x0 x1 hbm
 have g1 : decide ((0 : Int) < (cntL (W.ss.flatMap (·.wr)) key : Int)) = true := decide_eq_true (by have := HPOS.out; omega)
 have g2 : decide (0 < cntL (W.ss.flatMap (·.wr)) key) = true := decide_eq_true HPOS.out
 rw [hfn] at hhas
 go_wp2_with (first
  | (at_lookup; refine wpList_lookup_own_ok_int _ rfl _ _ 162 rfl 9 3 .i64 strLaw Tryz.underlying162 Tryz.underlying3 (zeroInt _) bm n _ rfl HO.out _ _ rfl hkey ?_; intro q hat hwq; obtain rfl : q = (cntL (W.ss.flatMap (·.wr)) key : Int) := (lit_inj (HAT.out.symm.trans hat)).symm; clear hat hwq)
  | go_in)
 have q4 : w1.cell? ⟨S, i * 5 + 4, none⟩ = some (.slice (some ⟨G i 3, 0, none⟩) W.ss[i].wr.length (C i 3)) := H1.out.cs i 3 hi (by omega)
 have hl4 := hD (show Lst w1 w1.heap.size (.slice (some ⟨G i 3, 0, none⟩) W.ss[i].wr.length (C i 3)) W.ss[i].wr from H1.out.list HZ.out hi (j := 3) (by omega))
 have hz0 : w.heap.size < w1.heap.size := by omega
 have hz1 : S < w1.heap.size := H1.out.blk.lt
 have kb := Below.refl w1.heap.size w1
 have dS := hD (show w1.drew.cell? ⟨S, i * 5 + 4, none⟩ = some (.slice (some ⟨G i 3, 0, none⟩) W.ss[i].wr.length (C i 3)) ∧ w1.drew.cell? ⟨w.heap.size, 1, none⟩ = some (.string key) from ⟨q4, q1⟩)
 go_region_held3 (fun wx => wx.cell? ⟨S, i * 5 + 4, none⟩ = some (.slice (some ⟨G i 3, 0, none⟩) W.ss[i].wr.length (C i 3)) ∧ wx.cell? ⟨w.heap.size, 1, none⟩ = some (.string key))
  (first
   | with_reducible exact ⟨q4, q1⟩
   | with_reducible exact dS.out
   | with_reducible exact ⟨(kb.cell (p := ⟨S, i * 5 + 4, none⟩) hz1).trans q4, (kb.cell (p := ⟨w.heap.size, 1, none⟩) hz0).trans q1⟩)
  (first
   | (
    go_at_call 95
    refine (place_any _ W.ss[i].wr key _ (by first | exact hl4.out | exact (hl4.out.step ((Below.refl _ _).drew)) | exact (hl4.out.step (below_drewN (Below.refl _ _) _))) HWR.out).mono ?_
    rw [HOWN.out]
    rintro e w8 ⟨rfl, hy⟩
    have kb : Below w1.heap.size w1 w8 := by first | exact kb.trans (hy.mono kb.size) | exact kb.trans ⟨hy.os, hy.tape, hy.output, hy.size, fun i hi => hy.block i (Nat.lt_of_lt_of_le hi kb.size)⟩))
 have hs8 := kb.size
 have H8 := hD (H1.out.kept kb)
 have B8 := hD (bel_add' B1.out kb B1.out.size)
 have X8 := hD (X1.out.below kb X1.out.lt)
 have Y8 := hD (HY1.out.below kb HY1.out.lt)
 have O8 := hD (HO.out.kept (grown_of_below kb none) (by simp))
 clear kb q1 q4 dS
 have c0 := H8.out.st i hi
 rw [hst] at c0
 have pc : w8.cell? ⟨S, i * 5 + 4, none⟩ = some (.slice (some ⟨G i 3, 0, none⟩) W.ss[i].wr.length (C i 3)) := H8.out.cs i 3 hi (by omega)
 have pf := H8.out.blk.frozen (i * 5 + 4)
 have hneg : S ≠ G i 3 := Ne.symm (H8.out.neGS i 3 hi (by omega))
 have hgw : G i 3 < w.heap.size := (H.out.ls i 3 hi (by omega)).row.lt
 have hpw : S < w.heap.size := hSw
 have HSTORE := hD (fun (w9 : World) (ho9 : OwnL w9 (G i 3) (C i 3) W.ss[i].wr) (hp9 : w9.cell? ⟨S, i * 5 + 4, none⟩ = some (.slice (some ⟨G i 3, 0, none⟩) W.ss[i].wr.length (C i 3))) (hf9 : w9.frozen? ⟨S, i * 5 + 4, none⟩ = false) => store_ok (G i 3) (C i 3) S (i * 5 + 4) W.ss[i].wr 10 key val 100 w9 ho9 HWR.out (by have := (HZ.out.li i 3 hi (by omega)).1; have e : (W.ss[i].li 3).length = W.ss[i].wr.length := rfl; omega) ((HZ.out.li i 3 hi (by omega)).sz) hp9 hf9 hneg (by omega) (by omega) HROOM.out)
 have O9 := hD (show OwnL w8 (G i 3) (C i 3) W.ss[i].wr from H8.out.ls i 3 hi (by omega))
 have PC := hD (And.intro pc pf)
 have hw8 : w.heap.size < w8.heap.size := by omega
 have hR8 : w.heap.size + 1 < w8.heap.size := by omega
 have y0 := Y8.out.cell (j := 0) (by simp)
 have y1 := Y8.out.cell (j := 1) (by simp)
 have y2 := Y8.out.cell (j := 2) (by simp)
 simp only [gCZ, gCS] at y0 y1 y2
 clear pc pf
 go_wp2
 have dS := hD (show w8.drew.cell? ⟨w.heap.size, 0, none⟩ = some (.int .i64 10) ∧ w8.drew.cell? ⟨w.heap.size, 1, none⟩ = some (.string key) ∧ w8.drew.cell? ⟨w.heap.size, 2, none⟩ = some (.string val) from ⟨y0, y1, y2⟩)
 have hne1 : w.heap.size ≠ G i 3 := by omega
 have hne2 : w.heap.size ≠ S := by omega
 have hne3 : w.heap.size + 1 ≠ G i 3 := by omega
 have hne4 : w.heap.size + 1 ≠ S := by omega
 go_region_held3 (fun wx => wx.cell? ⟨w.heap.size, 0, none⟩ = some (.int .i64 10) ∧ wx.cell? ⟨w.heap.size, 1, none⟩ = some (.string key) ∧ wx.cell? ⟨w.heap.size, 2, none⟩ = some (.string val))
  (first
   | with_reducible exact ⟨y0, y1, y2⟩
   | with_reducible exact dS.out
   | with_reducible exact ⟨cell_set3' z0 (by omega), cell_set3' z1 (by omega), cell_set3' z2 (by omega)⟩
   | with_reducible exact ⟨z0, z1, z2⟩)
  (first
   | (
    go_at_call 70
    refine (HSTORE.out _ (by first | exact O9.out | exact O9.out.same rfl) (by first | exact PC.out.1 | assumption) (by first | exact PC.out.2 | assumption)).mono ?_
    rintro e wB ⟨g', c', rfl, ho', hl', hc⟩
    have hcB : Chg w8 wB (G i 3) S (i * 5 + 4) (.slice (some ⟨g', 0, none⟩) (insL W.ss[i].wr key val).length c') := ⟨hc.os, hc.tape, hc.output, hc.size, hc.other, hc.here⟩
    have hlB : g' = G i 3 ∨ w8.heap.size ≤ g' := hl'
    have z0 := (World.cell?_of_block (a := ⟨w.heap.size, 0, none⟩) (hcB.other _ hw8 hne1 hne2)).trans y0
    have z1 := (World.cell?_of_block (a := ⟨w.heap.size, 1, none⟩) (hcB.other _ hw8 hne1 hne2)).trans y1
    have z2 := (World.cell?_of_block (a := ⟨w.heap.size, 2, none⟩) (hcB.other _ hw8 hne1 hne2)).trans y2
    have RB := X8.out.same (hcB.other _ hR8 hne3 hne4)
    have r0 := RB.cell (j := 0) (by simp)
    have r1 := RB.cell (j := 1) (by simp)
    have r2 := RB.cell (j := 2) (by simp)
    have s0 := RB.frozen 0
    have s1 := RB.frozen 1
    have s2 := RB.frozen 2
    simp only [gCZ, gCS] at r0 r1 r2
    unfold ansV))
 have HZ8 := hD (And.intro ho' (And.intro hlB hcB))
 clear ho' hlB hcB hl' hc RB z0 z1 z2
 go_wp2
 refine bodyPost_ret (v := .agg #[.int .i64 1, .string ⟨#[]⟩, .int .i64 0]) (by simp [results, Tryz.results71, go_sem, r0, r1, r2]) rfl ?_
 obtain ⟨a1, a2, a3⟩ := HZ8.out
 have ch := (((a3.pull B8.out hpw).setN (p := ⟨w.heap.size + 1, 0, none⟩) (by simp) hpw (.int .i64 1)).setN (p := ⟨w.heap.size + 1, 1, none⟩) (by simp) hpw (.string ⟨#[]⟩)).setN (p := ⟨w.heap.size + 1, 2, none⟩) (by simp) hpw (.int .i64 0)
 have hgR : w.heap.size + 1 ≠ g' := by rcases a2 with hh | hh <;> omega
 have oF : OwnL (((wB.setCell ⟨w.heap.size + 1, 0, none⟩ (.int .i64 1)).setCell ⟨w.heap.size + 1, 1, none⟩ (.string ⟨#[]⟩)).setCell ⟨w.heap.size + 1, 2, none⟩ (.int .i64 0)) g' c' (insL W.ss[i].wr key val) := ⟨((a1.row.other hgR _).other hgR _).other hgR _, a1.len, a1.most⟩
 have hlg : base ≤ g' := by have q1 := lo.g i 3 hi (by omega); rcases a2 with hh | hh <;> omega
 refine ⟨rfl, H.out.stored lo hlg HZ.out hi (j := 3) (by omega) (by have h1 := plusL_len W.ss[i].wr key val; rw [plus_ins HWR.out] at h1; have := (HZ.out.li i 3 hi (by omega)).1; have e : (W.ss[i].li 3).length = W.ss[i].wr.length := rfl; show (insL W.ss[i].wr key val).length ≤ 1000; omega) (((HZ.out.li i 3 hi (by omega)).sz).ins (by omega) (by omega)) oF ch rfl (fun k hk => ?_), ch.bel (lo.g i 3 hi (by omega)) lo.s hb, fun b hb _ h2 _ h4 => ch.other b hb (h4 i 3 hi (by omega)) h2⟩
 rcases j4 hk with rfl | rfl | rfl | rfl <;> rfl
end Go.Proofs.YtpbaobmegomfpabGreatDoor
namespace Go.Proofs.YtpbaobmegomfpabGreatDoor
open Go.RowKit Go.Maps Go.WideMaps
set_option maxHeartbeats 4000000 in
theorem put_wr_is (base X S gR cR : Nat) (G C : Nat → Nat → Nat) (W : Wd) (i : Nat) (key val : ByteArray) (w : World) (h : OwnD w X S gR cR G C W) (lo : LoD base X S gR G W.ss.length) (hw : WorldOk W) (hb : base ≤ w.heap.size) (hi : i < W.ss.length) (hkz : key.size ≤ 8) (hvz : val.size ≤ 60) (hown : fndL W.ss[i].wr key = false) (hc0 : cntL (W.ss.flatMap (·.wr)) key = 0) (hfn : fndL (allL W) key = true) (hst : W.ss[i].st = 1) :
  Calls Tryz.prog 71 #[.pointer (some ⟨X, 0, none⟩), .int .i64 i, .agg #[.int .i64 10, .string key, .string val]] w (DonePost w base X S gR G W.ss.length (W.put i { W.ss[i] with wr := insL W.ss[i].wr key val })) := by
 have HOWN := hD hown
 have HROOM := hD (room_wr hw hi (key := key) (fun hh => by rw [hfn] at hh; cases hh.1))
 have HRR := hD ((pairsB_rising hw.rows).1)
 clear hown
 have hz := worldOk_sz hw
 have hXw := h.box.lt
 have hSw := h.blk.lt
 have hpr := pairsB_rising hw.rows
 have HCW := hD (fun (w9 : World) (h9 : Wld w9 w9.heap.size (slc gR W.rows.length cR) (slc S W.ss.length W.ss.length) W) => countWriters_any _ _ W w9 h9 hpr.2.1 hpr.1 hw.many (fun j hj => (pairsB_rising (hw.sess j hj).wr).2.1))
 have HWR := hD ((pairsB_rising (hw.sess i hi).wr).1)
 have b0 : Below w.heap.size w ((w.alloc (.cells #[.int .i64 10, .string key, .string val] 41)).alloc (.cells #[.int .i64 0, .string ⟨#[]⟩, .int .i64 0] 46)) := ((Below.refl _ _).alloc (nL _) _).alloc (by simp) _
 have h0 := h.kept b0
 have x0 := h.box.cell (j := 0) (by simp)
 have x1 := h.box.cell (j := 1) (by simp)
 simp only [gCZ, gCS] at x0 x1
 unfold slc at x0 x1
 have X0 : RowTo ((w.alloc (.cells #[.int .i64 10, .string key, .string val] 41)).alloc (.cells #[.int .i64 0, .string ⟨#[]⟩, .int .i64 0] 46)) (w.heap.size + 1) 46 3 [.int .i64 0, .string ⟨#[]⟩, .int .i64 0] := by
  have := RowTo.whole (w.alloc (.cells #[.int .i64 10, .string key, .string val] 41)) #[.int .i64 0, .string ⟨#[]⟩, .int .i64 0] 46
  simpa using this
 have Y0 : RowTo ((w.alloc (.cells #[.int .i64 10, .string key, .string val] 41)).alloc (.cells #[.int .i64 0, .string ⟨#[]⟩, .int .i64 0] 46)) w.heap.size 41 3 [.int .i64 10, .string key, .string val] := (RowTo.whole w #[.int .i64 10, .string key, .string val] 41).alloc _
 have hzs : ((w.alloc (.cells #[.int .i64 10, .string key, .string val] 41)).alloc (.cells #[.int .i64 0, .string ⟨#[]⟩, .int .i64 0] 46)).heap.size = w.heap.size + 1 + 1 := by simp
 have hkey := klKey (s := key) (by omega)
 have hii : (i : Int) < (W.ss.length : Int) := by omega
 have H := hD h
 have H0 := hD h0
 have HZ := hD hz
 have HW := hD hw
 have B0 := hD b0
 have HX0 := hD X0
 have HY0 := hD Y0
 have HZS := hD hzs
 clear h h0 hz hw b0 X0 Y0 hzs hpr
 go_enter Tryz.func71, Tryz.ntmps71
 go_wp2_with fail
 refine (HCW.out _ (H0.out.wld HZ.out)).mono ?_
 rintro e w1 ⟨bm, n, M, rfl, hown, hmap, hn, hbm, hb1⟩
 have hs1 := hb1.size
 have H1 := hD (H0.out.kept hb1)
 have B1 := hD (bel_add' B0.out hb1 B0.out.size)
 have X1 := hD (HX0.out.below hb1 HX0.out.lt)
 have Y1 := HY0.out.below hb1 HY0.out.lt
 have q1 := Y1.cell (j := 1) (by simp)
 simp only [gCZ, gCS] at q1
 have HY1 := hD Y1
 have HO := hD hown
 have HM := hD hmap
 have HAT := hD (hmap.at_ key)
 have hhas : Maps.has M (kl key) = fndL (allL W) key := hmap.has key
 have hsize : Maps.size M = (allL W).length := hmap.size
 rw [HZS.out] at hs1
 have hbm' : w.heap.size + 1 + 1 ≤ bm := by rw [HZS.out] at hbm; exact hbm
 clear hown hmap hb1 Y1 x0 x1 hbm
 have g1 : decide ((0 : Int) < (cntL (W.ss.flatMap (·.wr)) key : Int)) = false := decide_eq_false (by omega)
 have g2 : decide (0 < cntL (W.ss.flatMap (·.wr)) key) = false := decide_eq_false (by omega)
 rw [hfn] at hhas
 go_wp2_with (first
  | (at_lookup; refine wpList_lookup_own_ok_int _ rfl _ _ 162 rfl 9 3 .i64 strLaw Tryz.underlying162 Tryz.underlying3 (zeroInt _) bm n _ rfl HO.out _ _ rfl hkey ?_; intro q hat hwq; obtain rfl : q = (cntL (W.ss.flatMap (·.wr)) key : Int) := (lit_inj (HAT.out.symm.trans hat)).symm; clear hat hwq)
  | go_in)
 have q4 : w1.cell? ⟨S, i * 5 + 4, none⟩ = some (.slice (some ⟨G i 3, 0, none⟩) W.ss[i].wr.length (C i 3)) := H1.out.cs i 3 hi (by omega)
 have hl4 := hD (show Lst w1 w1.heap.size (.slice (some ⟨G i 3, 0, none⟩) W.ss[i].wr.length (C i 3)) W.ss[i].wr from H1.out.list HZ.out hi (j := 3) (by omega))
 have hz0 : w.heap.size < w1.heap.size := by omega
 have hz1 : S < w1.heap.size := H1.out.blk.lt
 have kb := Below.refl w1.heap.size w1
 have dS := hD (show w1.drew.cell? ⟨S, i * 5 + 4, none⟩ = some (.slice (some ⟨G i 3, 0, none⟩) W.ss[i].wr.length (C i 3)) ∧ w1.drew.cell? ⟨w.heap.size, 1, none⟩ = some (.string key) from ⟨q4, q1⟩)
 go_region_held3 (fun wx => wx.cell? ⟨S, i * 5 + 4, none⟩ = some (.slice (some ⟨G i 3, 0, none⟩) W.ss[i].wr.length (C i 3)) ∧ wx.cell? ⟨w.heap.size, 1, none⟩ = some (.string key))
  (first
   | with_reducible exact ⟨q4, q1⟩
   | with_reducible exact dS.out
   | with_reducible exact ⟨(kb.cell (p := ⟨S, i * 5 + 4, none⟩) hz1).trans q4, (kb.cell (p := ⟨w.heap.size, 1, none⟩) hz0).trans q1⟩)
  (first
   | (
    go_at_call 95
    refine (place_any _ W.ss[i].wr key _ (by first | exact hl4.out | exact (hl4.out.step ((Below.refl _ _).drew)) | exact (hl4.out.step (below_drewN (Below.refl _ _) _))) HWR.out).mono ?_
    rw [HOWN.out]
    rintro e w8 ⟨rfl, hy⟩
    have kb : Below w1.heap.size w1 w8 := by first | exact kb.trans (hy.mono kb.size) | exact kb.trans ⟨hy.os, hy.tape, hy.output, hy.size, fun i hi => hy.block i (Nat.lt_of_lt_of_le hi kb.size)⟩))
 have hs8 := kb.size
 have H8 := hD (H1.out.kept kb)
 have B8 := hD (bel_add' B1.out kb B1.out.size)
 have X8 := hD (X1.out.below kb X1.out.lt)
 have Y8 := hD (HY1.out.below kb HY1.out.lt)
 have O8 := hD (HO.out.kept (grown_of_below kb none) (by simp))
 clear kb q1 q4 dS
 have c0 := H8.out.st i hi
 rw [hst] at c0
 have pc : w8.cell? ⟨S, i * 5 + 4, none⟩ = some (.slice (some ⟨G i 3, 0, none⟩) W.ss[i].wr.length (C i 3)) := H8.out.cs i 3 hi (by omega)
 have pf := H8.out.blk.frozen (i * 5 + 4)
 have hneg : S ≠ G i 3 := Ne.symm (H8.out.neGS i 3 hi (by omega))
 have hgw : G i 3 < w.heap.size := (H.out.ls i 3 hi (by omega)).row.lt
 have hpw : S < w.heap.size := hSw
 have HSTORE := hD (fun (w9 : World) (ho9 : OwnL w9 (G i 3) (C i 3) W.ss[i].wr) (hp9 : w9.cell? ⟨S, i * 5 + 4, none⟩ = some (.slice (some ⟨G i 3, 0, none⟩) W.ss[i].wr.length (C i 3))) (hf9 : w9.frozen? ⟨S, i * 5 + 4, none⟩ = false) => store_ok (G i 3) (C i 3) S (i * 5 + 4) W.ss[i].wr 10 key val 100 w9 ho9 HWR.out (by have := (HZ.out.li i 3 hi (by omega)).1; have e : (W.ss[i].li 3).length = W.ss[i].wr.length := rfl; omega) ((HZ.out.li i 3 hi (by omega)).sz) hp9 hf9 hneg (by omega) (by omega) HROOM.out)
 have O9 := hD (show OwnL w8 (G i 3) (C i 3) W.ss[i].wr from H8.out.ls i 3 hi (by omega))
 have PC := hD (And.intro pc pf)
 have hw8 : w.heap.size < w8.heap.size := by omega
 have hR8 : w.heap.size + 1 < w8.heap.size := by omega
 have y0 := Y8.out.cell (j := 0) (by simp)
 have y1 := Y8.out.cell (j := 1) (by simp)
 have y2 := Y8.out.cell (j := 2) (by simp)
 simp only [gCZ, gCS] at y0 y1 y2
 clear pc pf
 go_wp2
 have dS := hD (show w8.drew.cell? ⟨w.heap.size, 0, none⟩ = some (.int .i64 10) ∧ w8.drew.cell? ⟨w.heap.size, 1, none⟩ = some (.string key) ∧ w8.drew.cell? ⟨w.heap.size, 2, none⟩ = some (.string val) from ⟨y0, y1, y2⟩)
 have hne1 : w.heap.size ≠ G i 3 := by omega
 have hne2 : w.heap.size ≠ S := by omega
 have hne3 : w.heap.size + 1 ≠ G i 3 := by omega
 have hne4 : w.heap.size + 1 ≠ S := by omega
 go_region_held3 (fun wx => wx.cell? ⟨w.heap.size, 0, none⟩ = some (.int .i64 10) ∧ wx.cell? ⟨w.heap.size, 1, none⟩ = some (.string key) ∧ wx.cell? ⟨w.heap.size, 2, none⟩ = some (.string val))
  (first
   | with_reducible exact ⟨y0, y1, y2⟩
   | with_reducible exact dS.out
   | with_reducible exact ⟨cell_set3' z0 (by omega), cell_set3' z1 (by omega), cell_set3' z2 (by omega)⟩
   | with_reducible exact ⟨z0, z1, z2⟩)
  (first
   | (
    go_at_call 70
    refine (HSTORE.out _ (by first | exact O9.out | exact O9.out.same rfl) (by first | exact PC.out.1 | assumption) (by first | exact PC.out.2 | assumption)).mono ?_
    rintro e wB ⟨g', c', rfl, ho', hl', hc⟩
    have hcB : Chg w8 wB (G i 3) S (i * 5 + 4) (.slice (some ⟨g', 0, none⟩) (insL W.ss[i].wr key val).length c') := ⟨hc.os, hc.tape, hc.output, hc.size, hc.other, hc.here⟩
    have hlB : g' = G i 3 ∨ w8.heap.size ≤ g' := hl'
    have z0 := (World.cell?_of_block (a := ⟨w.heap.size, 0, none⟩) (hcB.other _ hw8 hne1 hne2)).trans y0
    have z1 := (World.cell?_of_block (a := ⟨w.heap.size, 1, none⟩) (hcB.other _ hw8 hne1 hne2)).trans y1
    have z2 := (World.cell?_of_block (a := ⟨w.heap.size, 2, none⟩) (hcB.other _ hw8 hne1 hne2)).trans y2
    have RB := X8.out.same (hcB.other _ hR8 hne3 hne4)
    have r0 := RB.cell (j := 0) (by simp)
    have r1 := RB.cell (j := 1) (by simp)
    have r2 := RB.cell (j := 2) (by simp)
    have s0 := RB.frozen 0
    have s1 := RB.frozen 1
    have s2 := RB.frozen 2
    simp only [gCZ, gCS] at r0 r1 r2
    unfold ansV))
 have HZ8 := hD (And.intro ho' (And.intro hlB hcB))
 clear ho' hlB hcB hl' hc RB z0 z1 z2
 go_wp2
 refine bodyPost_ret (v := .agg #[.int .i64 1, .string ⟨#[]⟩, .int .i64 0]) (by simp [results, Tryz.results71, go_sem, r0, r1, r2]) rfl ?_
 obtain ⟨a1, a2, a3⟩ := HZ8.out
 have ch := (((a3.pull B8.out hpw).setN (p := ⟨w.heap.size + 1, 0, none⟩) (by simp) hpw (.int .i64 1)).setN (p := ⟨w.heap.size + 1, 1, none⟩) (by simp) hpw (.string ⟨#[]⟩)).setN (p := ⟨w.heap.size + 1, 2, none⟩) (by simp) hpw (.int .i64 0)
 have hgR : w.heap.size + 1 ≠ g' := by rcases a2 with hh | hh <;> omega
 have oF : OwnL (((wB.setCell ⟨w.heap.size + 1, 0, none⟩ (.int .i64 1)).setCell ⟨w.heap.size + 1, 1, none⟩ (.string ⟨#[]⟩)).setCell ⟨w.heap.size + 1, 2, none⟩ (.int .i64 0)) g' c' (insL W.ss[i].wr key val) := ⟨((a1.row.other hgR _).other hgR _).other hgR _, a1.len, a1.most⟩
 have hlg : base ≤ g' := by have q1 := lo.g i 3 hi (by omega); rcases a2 with hh | hh <;> omega
 refine ⟨rfl, H.out.stored lo hlg HZ.out hi (j := 3) (by omega) (by have h1 := plusL_len W.ss[i].wr key val; rw [plus_ins HWR.out] at h1; have := (HZ.out.li i 3 hi (by omega)).1; have e : (W.ss[i].li 3).length = W.ss[i].wr.length := rfl; show (insL W.ss[i].wr key val).length ≤ 1000; omega) (((HZ.out.li i 3 hi (by omega)).sz).ins (by omega) (by omega)) oF ch rfl (fun k hk => ?_), ch.bel (lo.g i 3 hi (by omega)) lo.s hb, fun b hb _ h2 _ h4 => ch.other b hb (h4 i 3 hi (by omega)) h2⟩
 rcases j4 hk with rfl | rfl | rfl | rfl <;> rfl
set_option maxHeartbeats 4000000 in
theorem put_wr_new (base X S gR cR : Nat) (G C : Nat → Nat → Nat) (W : Wd) (i : Nat) (key val : ByteArray) (w : World) (h : OwnD w X S gR cR G C W) (lo : LoD base X S gR G W.ss.length) (hw : WorldOk W) (hb : base ≤ w.heap.size) (hi : i < W.ss.length) (hkz : key.size ≤ 8) (hvz : val.size ≤ 60) (hown : fndL W.ss[i].wr key = false) (hc0 : cntL (W.ss.flatMap (·.wr)) key = 0) (hfn : fndL (allL W) key = false) (hfl : (allL W).length < 100) (hst : W.ss[i].st = 1) :
  Calls Tryz.prog 71 #[.pointer (some ⟨X, 0, none⟩), .int .i64 i, .agg #[.int .i64 10, .string key, .string val]] w (DonePost w base X S gR G W.ss.length (W.put i { W.ss[i] with wr := insL W.ss[i].wr key val })) := by
 have HOWN := hD hown
 have HROOM := hD (room_wr hw hi (key := key) (fun hh => by omega))
 have HRR := hD ((pairsB_rising hw.rows).1)
 clear hown
 have hz := worldOk_sz hw
 have hXw := h.box.lt
 have hSw := h.blk.lt
 have hpr := pairsB_rising hw.rows
 have HCW := hD (fun (w9 : World) (h9 : Wld w9 w9.heap.size (slc gR W.rows.length cR) (slc S W.ss.length W.ss.length) W) => countWriters_any _ _ W w9 h9 hpr.2.1 hpr.1 hw.many (fun j hj => (pairsB_rising (hw.sess j hj).wr).2.1))
 have HWR := hD ((pairsB_rising (hw.sess i hi).wr).1)
 have b0 : Below w.heap.size w ((w.alloc (.cells #[.int .i64 10, .string key, .string val] 41)).alloc (.cells #[.int .i64 0, .string ⟨#[]⟩, .int .i64 0] 46)) := ((Below.refl _ _).alloc (nL _) _).alloc (by simp) _
 have h0 := h.kept b0
 have x0 := h.box.cell (j := 0) (by simp)
 have x1 := h.box.cell (j := 1) (by simp)
 simp only [gCZ, gCS] at x0 x1
 unfold slc at x0 x1
 have X0 : RowTo ((w.alloc (.cells #[.int .i64 10, .string key, .string val] 41)).alloc (.cells #[.int .i64 0, .string ⟨#[]⟩, .int .i64 0] 46)) (w.heap.size + 1) 46 3 [.int .i64 0, .string ⟨#[]⟩, .int .i64 0] := by
  have := RowTo.whole (w.alloc (.cells #[.int .i64 10, .string key, .string val] 41)) #[.int .i64 0, .string ⟨#[]⟩, .int .i64 0] 46
  simpa using this
 have Y0 : RowTo ((w.alloc (.cells #[.int .i64 10, .string key, .string val] 41)).alloc (.cells #[.int .i64 0, .string ⟨#[]⟩, .int .i64 0] 46)) w.heap.size 41 3 [.int .i64 10, .string key, .string val] := (RowTo.whole w #[.int .i64 10, .string key, .string val] 41).alloc _
 have hzs : ((w.alloc (.cells #[.int .i64 10, .string key, .string val] 41)).alloc (.cells #[.int .i64 0, .string ⟨#[]⟩, .int .i64 0] 46)).heap.size = w.heap.size + 1 + 1 := by simp
 have hkey := klKey (s := key) (by omega)
 have hii : (i : Int) < (W.ss.length : Int) := by omega
 have H := hD h
 have H0 := hD h0
 have HZ := hD hz
 have HW := hD hw
 have B0 := hD b0
 have HX0 := hD X0
 have HY0 := hD Y0
 have HZS := hD hzs
 clear h h0 hz hw b0 X0 Y0 hzs hpr
 go_enter Tryz.func71, Tryz.ntmps71
 go_wp2_with fail
 refine (HCW.out _ (H0.out.wld HZ.out)).mono ?_
 rintro e w1 ⟨bm, n, M, rfl, hown, hmap, hn, hbm, hb1⟩
 have hs1 := hb1.size
 have H1 := hD (H0.out.kept hb1)
 have B1 := hD (bel_add' B0.out hb1 B0.out.size)
 have X1 := hD (HX0.out.below hb1 HX0.out.lt)
 have Y1 := HY0.out.below hb1 HY0.out.lt
 have q1 := Y1.cell (j := 1) (by simp)
 simp only [gCZ, gCS] at q1
 have HY1 := hD Y1
 have HO := hD hown
 have HM := hD hmap
 have HAT := hD (hmap.at_ key)
 have hhas : Maps.has M (kl key) = fndL (allL W) key := hmap.has key
 have hsize : Maps.size M = (allL W).length := hmap.size
 rw [HZS.out] at hs1
 have hbm' : w.heap.size + 1 + 1 ≤ bm := by rw [HZS.out] at hbm; exact hbm
 clear hown hmap hb1 Y1 x0 x1 hbm
 have g1 : decide ((0 : Int) < (cntL (W.ss.flatMap (·.wr)) key : Int)) = false := decide_eq_false (by omega)
 have g2 : decide (0 < cntL (W.ss.flatMap (·.wr)) key) = false := decide_eq_false (by omega)
 rw [hfn] at hhas
 have g3 : decide ((100 : Int) ≤ ((allL W).length : Int)) = false := decide_eq_false (by omega)
 have g4 : decide (100 ≤ (allL W).length) = false := decide_eq_false (by omega)
 go_wp2_with (first
  | (at_lookup; refine wpList_lookup_own_ok_int _ rfl _ _ 162 rfl 9 3 .i64 strLaw Tryz.underlying162 Tryz.underlying3 (zeroInt _) bm n _ rfl HO.out _ _ rfl hkey ?_; intro q hat hwq; obtain rfl : q = (cntL (W.ss.flatMap (·.wr)) key : Int) := (lit_inj (HAT.out.symm.trans hat)).symm; clear hat hwq)
  | go_in)
 have q4 : w1.cell? ⟨S, i * 5 + 4, none⟩ = some (.slice (some ⟨G i 3, 0, none⟩) W.ss[i].wr.length (C i 3)) := H1.out.cs i 3 hi (by omega)
 have hl4 := hD (show Lst w1 w1.heap.size (.slice (some ⟨G i 3, 0, none⟩) W.ss[i].wr.length (C i 3)) W.ss[i].wr from H1.out.list HZ.out hi (j := 3) (by omega))
 have hz0 : w.heap.size < w1.heap.size := by omega
 have hz1 : S < w1.heap.size := H1.out.blk.lt
 have kb := Below.refl w1.heap.size w1
 have dS := hD (show w1.drew.cell? ⟨S, i * 5 + 4, none⟩ = some (.slice (some ⟨G i 3, 0, none⟩) W.ss[i].wr.length (C i 3)) ∧ w1.drew.cell? ⟨w.heap.size, 1, none⟩ = some (.string key) from ⟨q4, q1⟩)
 go_region_held3 (fun wx => wx.cell? ⟨S, i * 5 + 4, none⟩ = some (.slice (some ⟨G i 3, 0, none⟩) W.ss[i].wr.length (C i 3)) ∧ wx.cell? ⟨w.heap.size, 1, none⟩ = some (.string key))
  (first
   | with_reducible exact ⟨q4, q1⟩
   | with_reducible exact dS.out
   | with_reducible exact ⟨(kb.cell (p := ⟨S, i * 5 + 4, none⟩) hz1).trans q4, (kb.cell (p := ⟨w.heap.size, 1, none⟩) hz0).trans q1⟩)
  (first
   | (
    go_at_call 95
    refine (place_any _ W.ss[i].wr key _ (by first | exact hl4.out | exact (hl4.out.step ((Below.refl _ _).drew)) | exact (hl4.out.step (below_drewN (Below.refl _ _) _))) HWR.out).mono ?_
    rw [HOWN.out]
    rintro e w8 ⟨rfl, hy⟩
    have kb : Below w1.heap.size w1 w8 := by first | exact kb.trans (hy.mono kb.size) | exact kb.trans ⟨hy.os, hy.tape, hy.output, hy.size, fun i hi => hy.block i (Nat.lt_of_lt_of_le hi kb.size)⟩))
 have hs8 := kb.size
 have H8 := hD (H1.out.kept kb)
 have B8 := hD (bel_add' B1.out kb B1.out.size)
 have X8 := hD (X1.out.below kb X1.out.lt)
 have Y8 := hD (HY1.out.below kb HY1.out.lt)
 have O8 := hD (HO.out.kept (grown_of_below kb none) (by simp))
 clear kb q1 q4 dS
 have hlen := O8.out.len (t := 162) (e := 3) Tryz.underlying162
 have c0 := H8.out.st i hi
 rw [hst] at c0
 have pc : w8.cell? ⟨S, i * 5 + 4, none⟩ = some (.slice (some ⟨G i 3, 0, none⟩) W.ss[i].wr.length (C i 3)) := H8.out.cs i 3 hi (by omega)
 have pf := H8.out.blk.frozen (i * 5 + 4)
 have hneg : S ≠ G i 3 := Ne.symm (H8.out.neGS i 3 hi (by omega))
 have hgw : G i 3 < w.heap.size := (H.out.ls i 3 hi (by omega)).row.lt
 have hpw : S < w.heap.size := hSw
 have HSTORE := hD (fun (w9 : World) (ho9 : OwnL w9 (G i 3) (C i 3) W.ss[i].wr) (hp9 : w9.cell? ⟨S, i * 5 + 4, none⟩ = some (.slice (some ⟨G i 3, 0, none⟩) W.ss[i].wr.length (C i 3))) (hf9 : w9.frozen? ⟨S, i * 5 + 4, none⟩ = false) => store_ok (G i 3) (C i 3) S (i * 5 + 4) W.ss[i].wr 10 key val 100 w9 ho9 HWR.out (by have := (HZ.out.li i 3 hi (by omega)).1; have e : (W.ss[i].li 3).length = W.ss[i].wr.length := rfl; omega) ((HZ.out.li i 3 hi (by omega)).sz) hp9 hf9 hneg (by omega) (by omega) HROOM.out)
 have O9 := hD (show OwnL w8 (G i 3) (C i 3) W.ss[i].wr from H8.out.ls i 3 hi (by omega))
 have PC := hD (And.intro pc pf)
 have hw8 : w.heap.size < w8.heap.size := by omega
 have hR8 : w.heap.size + 1 < w8.heap.size := by omega
 have y0 := Y8.out.cell (j := 0) (by simp)
 have y1 := Y8.out.cell (j := 1) (by simp)
 have y2 := Y8.out.cell (j := 2) (by simp)
 simp only [gCZ, gCS] at y0 y1 y2
 clear pc pf
 go_wp2
 have dS := hD (show w8.drew.cell? ⟨w.heap.size, 0, none⟩ = some (.int .i64 10) ∧ w8.drew.cell? ⟨w.heap.size, 1, none⟩ = some (.string key) ∧ w8.drew.cell? ⟨w.heap.size, 2, none⟩ = some (.string val) from ⟨y0, y1, y2⟩)
 have hne1 : w.heap.size ≠ G i 3 := by omega
 have hne2 : w.heap.size ≠ S := by omega
 have hne3 : w.heap.size + 1 ≠ G i 3 := by omega
 have hne4 : w.heap.size + 1 ≠ S := by omega
 go_region_held3 (fun wx => wx.cell? ⟨w.heap.size, 0, none⟩ = some (.int .i64 10) ∧ wx.cell? ⟨w.heap.size, 1, none⟩ = some (.string key) ∧ wx.cell? ⟨w.heap.size, 2, none⟩ = some (.string val))
  (first
   | with_reducible exact ⟨y0, y1, y2⟩
   | with_reducible exact dS.out
   | with_reducible exact ⟨cell_set3' z0 (by omega), cell_set3' z1 (by omega), cell_set3' z2 (by omega)⟩
   | with_reducible exact ⟨z0, z1, z2⟩)
  (first
   | (
    go_at_call 70
    refine (HSTORE.out _ (by first | exact O9.out | exact O9.out.same rfl) (by first | exact PC.out.1 | assumption) (by first | exact PC.out.2 | assumption)).mono ?_
    rintro e wB ⟨g', c', rfl, ho', hl', hc⟩
    have hcB : Chg w8 wB (G i 3) S (i * 5 + 4) (.slice (some ⟨g', 0, none⟩) (insL W.ss[i].wr key val).length c') := ⟨hc.os, hc.tape, hc.output, hc.size, hc.other, hc.here⟩
    have hlB : g' = G i 3 ∨ w8.heap.size ≤ g' := hl'
    have z0 := (World.cell?_of_block (a := ⟨w.heap.size, 0, none⟩) (hcB.other _ hw8 hne1 hne2)).trans y0
    have z1 := (World.cell?_of_block (a := ⟨w.heap.size, 1, none⟩) (hcB.other _ hw8 hne1 hne2)).trans y1
    have z2 := (World.cell?_of_block (a := ⟨w.heap.size, 2, none⟩) (hcB.other _ hw8 hne1 hne2)).trans y2
    have RB := X8.out.same (hcB.other _ hR8 hne3 hne4)
    have r0 := RB.cell (j := 0) (by simp)
    have r1 := RB.cell (j := 1) (by simp)
    have r2 := RB.cell (j := 2) (by simp)
    have s0 := RB.frozen 0
    have s1 := RB.frozen 1
    have s2 := RB.frozen 2
    simp only [gCZ, gCS] at r0 r1 r2
    unfold ansV))
 have HZ8 := hD (And.intro ho' (And.intro hlB hcB))
 clear ho' hlB hcB hl' hc RB z0 z1 z2
 go_wp2
 refine bodyPost_ret (v := .agg #[.int .i64 1, .string ⟨#[]⟩, .int .i64 0]) (by simp [results, Tryz.results71, go_sem, r0, r1, r2]) rfl ?_
 obtain ⟨a1, a2, a3⟩ := HZ8.out
 have ch := (((a3.pull B8.out hpw).setN (p := ⟨w.heap.size + 1, 0, none⟩) (by simp) hpw (.int .i64 1)).setN (p := ⟨w.heap.size + 1, 1, none⟩) (by simp) hpw (.string ⟨#[]⟩)).setN (p := ⟨w.heap.size + 1, 2, none⟩) (by simp) hpw (.int .i64 0)
 have hgR : w.heap.size + 1 ≠ g' := by rcases a2 with hh | hh <;> omega
 have oF : OwnL (((wB.setCell ⟨w.heap.size + 1, 0, none⟩ (.int .i64 1)).setCell ⟨w.heap.size + 1, 1, none⟩ (.string ⟨#[]⟩)).setCell ⟨w.heap.size + 1, 2, none⟩ (.int .i64 0)) g' c' (insL W.ss[i].wr key val) := ⟨((a1.row.other hgR _).other hgR _).other hgR _, a1.len, a1.most⟩
 have hlg : base ≤ g' := by have q1 := lo.g i 3 hi (by omega); rcases a2 with hh | hh <;> omega
 refine ⟨rfl, H.out.stored lo hlg HZ.out hi (j := 3) (by omega) (by have h1 := plusL_len W.ss[i].wr key val; rw [plus_ins HWR.out] at h1; have := (HZ.out.li i 3 hi (by omega)).1; have e : (W.ss[i].li 3).length = W.ss[i].wr.length := rfl; show (insL W.ss[i].wr key val).length ≤ 1000; omega) (((HZ.out.li i 3 hi (by omega)).sz).ins (by omega) (by omega)) oF ch rfl (fun k hk => ?_), ch.bel (lo.g i 3 hi (by omega)) lo.s hb, fun b hb _ h2 _ h4 => ch.other b hb (h4 i 3 hi (by omega)) h2⟩
 rcases j4 hk with rfl | rfl | rfl | rfl <;> rfl
end Go.Proofs.YtpbaobmegomfpabGreatDoor
namespace Go.Proofs.YtpbaobmegomfpabGreatDoor
open Go.RowKit Go.Maps Go.WideMaps
set_option maxHeartbeats 4000000 in
theorem put_row_is (base X S gR cR : Nat) (G C : Nat → Nat → Nat) (W : Wd) (i : Nat) (key val : ByteArray) (w : World) (h : OwnD w X S gR cR G C W) (lo : LoD base X S gR G W.ss.length) (hw : WorldOk W) (hb : base ≤ w.heap.size) (hi : i < W.ss.length) (hkz : key.size ≤ 8) (hvz : val.size ≤ 60) (hown : fndL W.ss[i].wr key = false) (hc0 : cntL (W.ss.flatMap (·.wr)) key = 0) (hfn : fndL (allL W) key = true) (hst : W.ss[i].st ≠ 1) :
  Calls Tryz.prog 71 #[.pointer (some ⟨X, 0, none⟩), .int .i64 i, .agg #[.int .i64 10, .string key, .string val]] w (DonePost w base X S gR G W.ss.length ⟨insL W.rows key val, W.ss⟩) := by
 have HOWN := hD hown
 have HROOM := hD (room_rows hw (key := key) (fun hh => by rw [hfn] at hh; cases hh.1))
 have HRR := hD ((pairsB_rising hw.rows).1)
 clear hown
 have hz := worldOk_sz hw
 have hXw := h.box.lt
 have hSw := h.blk.lt
 have hpr := pairsB_rising hw.rows
 have HCW := hD (fun (w9 : World) (h9 : Wld w9 w9.heap.size (slc gR W.rows.length cR) (slc S W.ss.length W.ss.length) W) => countWriters_any _ _ W w9 h9 hpr.2.1 hpr.1 hw.many (fun j hj => (pairsB_rising (hw.sess j hj).wr).2.1))
 have HWR := hD ((pairsB_rising (hw.sess i hi).wr).1)
 have b0 : Below w.heap.size w ((w.alloc (.cells #[.int .i64 10, .string key, .string val] 41)).alloc (.cells #[.int .i64 0, .string ⟨#[]⟩, .int .i64 0] 46)) := ((Below.refl _ _).alloc (nL _) _).alloc (by simp) _
 have h0 := h.kept b0
 have x0 := h.box.cell (j := 0) (by simp)
 have x1 := h.box.cell (j := 1) (by simp)
 simp only [gCZ, gCS] at x0 x1
 unfold slc at x0 x1
 have X0 : RowTo ((w.alloc (.cells #[.int .i64 10, .string key, .string val] 41)).alloc (.cells #[.int .i64 0, .string ⟨#[]⟩, .int .i64 0] 46)) (w.heap.size + 1) 46 3 [.int .i64 0, .string ⟨#[]⟩, .int .i64 0] := by
  have := RowTo.whole (w.alloc (.cells #[.int .i64 10, .string key, .string val] 41)) #[.int .i64 0, .string ⟨#[]⟩, .int .i64 0] 46
  simpa using this
 have Y0 : RowTo ((w.alloc (.cells #[.int .i64 10, .string key, .string val] 41)).alloc (.cells #[.int .i64 0, .string ⟨#[]⟩, .int .i64 0] 46)) w.heap.size 41 3 [.int .i64 10, .string key, .string val] := (RowTo.whole w #[.int .i64 10, .string key, .string val] 41).alloc _
 have hzs : ((w.alloc (.cells #[.int .i64 10, .string key, .string val] 41)).alloc (.cells #[.int .i64 0, .string ⟨#[]⟩, .int .i64 0] 46)).heap.size = w.heap.size + 1 + 1 := by simp
 have hkey := klKey (s := key) (by omega)
 have hii : (i : Int) < (W.ss.length : Int) := by omega
 have H := hD h
 have H0 := hD h0
 have HZ := hD hz
 have HW := hD hw
 have B0 := hD b0
 have HX0 := hD X0
 have HY0 := hD Y0
 have HZS := hD hzs
 clear h h0 hz hw b0 X0 Y0 hzs hpr
 go_enter Tryz.func71, Tryz.ntmps71
 go_wp2_with fail
 refine (HCW.out _ (H0.out.wld HZ.out)).mono ?_
 rintro e w1 ⟨bm, n, M, rfl, hown, hmap, hn, hbm, hb1⟩
 have hs1 := hb1.size
 have H1 := hD (H0.out.kept hb1)
 have B1 := hD (bel_add' B0.out hb1 B0.out.size)
 have X1 := hD (HX0.out.below hb1 HX0.out.lt)
 have Y1 := HY0.out.below hb1 HY0.out.lt
 have q1 := Y1.cell (j := 1) (by simp)
 simp only [gCZ, gCS] at q1
 have HY1 := hD Y1
 have HO := hD hown
 have HM := hD hmap
 have HAT := hD (hmap.at_ key)
 have hhas : Maps.has M (kl key) = fndL (allL W) key := hmap.has key
 have hsize : Maps.size M = (allL W).length := hmap.size
 rw [HZS.out] at hs1
 have hbm' : w.heap.size + 1 + 1 ≤ bm := by rw [HZS.out] at hbm; exact hbm
 clear hown hmap hb1 Y1 x0 x1 hbm
 have g1 : decide ((0 : Int) < (cntL (W.ss.flatMap (·.wr)) key : Int)) = false := decide_eq_false (by omega)
 have g2 : decide (0 < cntL (W.ss.flatMap (·.wr)) key) = false := decide_eq_false (by omega)
 rw [hfn] at hhas
 go_wp2_with (first
  | (at_lookup; refine wpList_lookup_own_ok_int _ rfl _ _ 162 rfl 9 3 .i64 strLaw Tryz.underlying162 Tryz.underlying3 (zeroInt _) bm n _ rfl HO.out _ _ rfl hkey ?_; intro q hat hwq; obtain rfl : q = (cntL (W.ss.flatMap (·.wr)) key : Int) := (lit_inj (HAT.out.symm.trans hat)).symm; clear hat hwq)
  | go_in)
 have q4 : w1.cell? ⟨S, i * 5 + 4, none⟩ = some (.slice (some ⟨G i 3, 0, none⟩) W.ss[i].wr.length (C i 3)) := H1.out.cs i 3 hi (by omega)
 have hl4 := hD (show Lst w1 w1.heap.size (.slice (some ⟨G i 3, 0, none⟩) W.ss[i].wr.length (C i 3)) W.ss[i].wr from H1.out.list HZ.out hi (j := 3) (by omega))
 have hz0 : w.heap.size < w1.heap.size := by omega
 have hz1 : S < w1.heap.size := H1.out.blk.lt
 have kb := Below.refl w1.heap.size w1
 have dS := hD (show w1.drew.cell? ⟨S, i * 5 + 4, none⟩ = some (.slice (some ⟨G i 3, 0, none⟩) W.ss[i].wr.length (C i 3)) ∧ w1.drew.cell? ⟨w.heap.size, 1, none⟩ = some (.string key) from ⟨q4, q1⟩)
 go_region_held3 (fun wx => wx.cell? ⟨S, i * 5 + 4, none⟩ = some (.slice (some ⟨G i 3, 0, none⟩) W.ss[i].wr.length (C i 3)) ∧ wx.cell? ⟨w.heap.size, 1, none⟩ = some (.string key))
  (first
   | with_reducible exact ⟨q4, q1⟩
   | with_reducible exact dS.out
   | with_reducible exact ⟨(kb.cell (p := ⟨S, i * 5 + 4, none⟩) hz1).trans q4, (kb.cell (p := ⟨w.heap.size, 1, none⟩) hz0).trans q1⟩)
  (first
   | (
    go_at_call 95
    refine (place_any _ W.ss[i].wr key _ (by first | exact hl4.out | exact (hl4.out.step ((Below.refl _ _).drew)) | exact (hl4.out.step (below_drewN (Below.refl _ _) _))) HWR.out).mono ?_
    rw [HOWN.out]
    rintro e w8 ⟨rfl, hy⟩
    have kb : Below w1.heap.size w1 w8 := by first | exact kb.trans (hy.mono kb.size) | exact kb.trans ⟨hy.os, hy.tape, hy.output, hy.size, fun i hi => hy.block i (Nat.lt_of_lt_of_le hi kb.size)⟩))
 have hs8 := kb.size
 have H8 := hD (H1.out.kept kb)
 have B8 := hD (bel_add' B1.out kb B1.out.size)
 have X8 := hD (X1.out.below kb X1.out.lt)
 have Y8 := hD (HY1.out.below kb HY1.out.lt)
 have O8 := hD (HO.out.kept (grown_of_below kb none) (by simp))
 clear kb q1 q4 dS
 have c0 := H8.out.st i hi
 have e9 : (W.ss[i].st == 1) = false := beq_eq_false_iff_ne.2 hst
 have pc : w8.cell? ⟨X, 0, none⟩ = some (.slice (some ⟨gR, 0, none⟩) W.rows.length cR) := by have := H8.out.box.cell (j := 0) (by simp); simpa [slc] using this
 have pf := H8.out.box.frozen 0
 have hneg : X ≠ gR := Ne.symm H8.out.neRX
 have hgw : gR < w.heap.size := H.out.rows.row.lt
 have hpw : X < w.heap.size := hXw
 have HSTORE := hD (fun (w9 : World) (ho9 : OwnL w9 gR cR W.rows) (hp9 : w9.cell? ⟨X, 0, none⟩ = some (.slice (some ⟨gR, 0, none⟩) W.rows.length cR)) (hf9 : w9.frozen? ⟨X, 0, none⟩ = false) => store_ok gR cR X 0 W.rows 10 key val 100 w9 ho9 HRR.out (by have := HZ.out.rows.1; omega) (HZ.out.rows.sz) hp9 hf9 hneg (by omega) (by omega) HROOM.out)
 have O9 := hD (show OwnL w8 gR cR W.rows from H8.out.rows)
 have PC := hD (And.intro pc pf)
 have hw8 : w.heap.size < w8.heap.size := by omega
 have hR8 : w.heap.size + 1 < w8.heap.size := by omega
 have y0 := Y8.out.cell (j := 0) (by simp)
 have y1 := Y8.out.cell (j := 1) (by simp)
 have y2 := Y8.out.cell (j := 2) (by simp)
 simp only [gCZ, gCS] at y0 y1 y2
 clear pc pf
 go_wp2
 have dS := hD (show w8.drew.cell? ⟨w.heap.size, 0, none⟩ = some (.int .i64 10) ∧ w8.drew.cell? ⟨w.heap.size, 1, none⟩ = some (.string key) ∧ w8.drew.cell? ⟨w.heap.size, 2, none⟩ = some (.string val) from ⟨y0, y1, y2⟩)
 have hne1 : w.heap.size ≠ gR := by omega
 have hne2 : w.heap.size ≠ X := by omega
 have hne3 : w.heap.size + 1 ≠ gR := by omega
 have hne4 : w.heap.size + 1 ≠ X := by omega
 go_region_held3 (fun wx => wx.cell? ⟨w.heap.size, 0, none⟩ = some (.int .i64 10) ∧ wx.cell? ⟨w.heap.size, 1, none⟩ = some (.string key) ∧ wx.cell? ⟨w.heap.size, 2, none⟩ = some (.string val))
  (first
   | with_reducible exact ⟨y0, y1, y2⟩
   | with_reducible exact dS.out
   | with_reducible exact ⟨cell_set3' z0 (by omega), cell_set3' z1 (by omega), cell_set3' z2 (by omega)⟩
   | with_reducible exact ⟨z0, z1, z2⟩)
  (first
   | (
    go_at_call 70
    refine (HSTORE.out _ (by first | exact O9.out | exact O9.out.same rfl) (by first | exact PC.out.1 | assumption) (by first | exact PC.out.2 | assumption)).mono ?_
    rintro e wB ⟨g', c', rfl, ho', hl', hc⟩
    have hcB : Chg w8 wB gR X 0 (.slice (some ⟨g', 0, none⟩) (insL W.rows key val).length c') := ⟨hc.os, hc.tape, hc.output, hc.size, hc.other, hc.here⟩
    have hlB : g' = gR ∨ w8.heap.size ≤ g' := hl'
    have z0 := (World.cell?_of_block (a := ⟨w.heap.size, 0, none⟩) (hcB.other _ hw8 hne1 hne2)).trans y0
    have z1 := (World.cell?_of_block (a := ⟨w.heap.size, 1, none⟩) (hcB.other _ hw8 hne1 hne2)).trans y1
    have z2 := (World.cell?_of_block (a := ⟨w.heap.size, 2, none⟩) (hcB.other _ hw8 hne1 hne2)).trans y2
    have RB := X8.out.same (hcB.other _ hR8 hne3 hne4)
    have r0 := RB.cell (j := 0) (by simp)
    have r1 := RB.cell (j := 1) (by simp)
    have r2 := RB.cell (j := 2) (by simp)
    have s0 := RB.frozen 0
    have s1 := RB.frozen 1
    have s2 := RB.frozen 2
    simp only [gCZ, gCS] at r0 r1 r2
    unfold ansV))
 have HZ8 := hD (And.intro ho' (And.intro hlB hcB))
 clear ho' hlB hcB hl' hc RB z0 z1 z2
 go_wp2
 refine bodyPost_ret (v := .agg #[.int .i64 1, .string ⟨#[]⟩, .int .i64 0]) (by simp [results, Tryz.results71, go_sem, r0, r1, r2]) rfl ?_
 obtain ⟨a1, a2, a3⟩ := HZ8.out
 have ch := (((a3.pull B8.out hpw).setN (p := ⟨w.heap.size + 1, 0, none⟩) (by simp) hpw (.int .i64 1)).setN (p := ⟨w.heap.size + 1, 1, none⟩) (by simp) hpw (.string ⟨#[]⟩)).setN (p := ⟨w.heap.size + 1, 2, none⟩) (by simp) hpw (.int .i64 0)
 have hgR : w.heap.size + 1 ≠ g' := by rcases a2 with hh | hh <;> omega
 have oF : OwnL (((wB.setCell ⟨w.heap.size + 1, 0, none⟩ (.int .i64 1)).setCell ⟨w.heap.size + 1, 1, none⟩ (.string ⟨#[]⟩)).setCell ⟨w.heap.size + 1, 2, none⟩ (.int .i64 0)) g' c' (insL W.rows key val) := ⟨((a1.row.other hgR _).other hgR _).other hgR _, a1.len, a1.most⟩
 have hlg : base ≤ g' := by have q1 := lo.r; rcases a2 with hh | hh <;> omega
 exact ⟨rfl, H.out.storedR lo hlg HZ.out hi (by have h1 := plusL_len W.rows key val; rw [plus_ins HRR.out] at h1; have := HZ.out.rows.1; omega) (HZ.out.rows.sz.ins (by omega) (by omega)) oF ch, ch.bel lo.r lo.x hb, fun b hb h1 _ h3 _ => ch.other b hb h3 h1⟩
set_option maxHeartbeats 4000000 in
theorem put_row_new (base X S gR cR : Nat) (G C : Nat → Nat → Nat) (W : Wd) (i : Nat) (key val : ByteArray) (w : World) (h : OwnD w X S gR cR G C W) (lo : LoD base X S gR G W.ss.length) (hw : WorldOk W) (hb : base ≤ w.heap.size) (hi : i < W.ss.length) (hkz : key.size ≤ 8) (hvz : val.size ≤ 60) (hown : fndL W.ss[i].wr key = false) (hc0 : cntL (W.ss.flatMap (·.wr)) key = 0) (hfn : fndL (allL W) key = false) (hfl : (allL W).length < 100) (hst : W.ss[i].st ≠ 1) :
  Calls Tryz.prog 71 #[.pointer (some ⟨X, 0, none⟩), .int .i64 i, .agg #[.int .i64 10, .string key, .string val]] w (DonePost w base X S gR G W.ss.length ⟨insL W.rows key val, W.ss⟩) := by
 have HOWN := hD hown
 have HROOM := hD (room_rows hw (key := key) (fun hh => by omega))
 have HRR := hD ((pairsB_rising hw.rows).1)
 clear hown
 have hz := worldOk_sz hw
 have hXw := h.box.lt
 have hSw := h.blk.lt
 have hpr := pairsB_rising hw.rows
 have HCW := hD (fun (w9 : World) (h9 : Wld w9 w9.heap.size (slc gR W.rows.length cR) (slc S W.ss.length W.ss.length) W) => countWriters_any _ _ W w9 h9 hpr.2.1 hpr.1 hw.many (fun j hj => (pairsB_rising (hw.sess j hj).wr).2.1))
 have HWR := hD ((pairsB_rising (hw.sess i hi).wr).1)
 have b0 : Below w.heap.size w ((w.alloc (.cells #[.int .i64 10, .string key, .string val] 41)).alloc (.cells #[.int .i64 0, .string ⟨#[]⟩, .int .i64 0] 46)) := ((Below.refl _ _).alloc (nL _) _).alloc (by simp) _
 have h0 := h.kept b0
 have x0 := h.box.cell (j := 0) (by simp)
 have x1 := h.box.cell (j := 1) (by simp)
 simp only [gCZ, gCS] at x0 x1
 unfold slc at x0 x1
 have X0 : RowTo ((w.alloc (.cells #[.int .i64 10, .string key, .string val] 41)).alloc (.cells #[.int .i64 0, .string ⟨#[]⟩, .int .i64 0] 46)) (w.heap.size + 1) 46 3 [.int .i64 0, .string ⟨#[]⟩, .int .i64 0] := by
  have := RowTo.whole (w.alloc (.cells #[.int .i64 10, .string key, .string val] 41)) #[.int .i64 0, .string ⟨#[]⟩, .int .i64 0] 46
  simpa using this
 have Y0 : RowTo ((w.alloc (.cells #[.int .i64 10, .string key, .string val] 41)).alloc (.cells #[.int .i64 0, .string ⟨#[]⟩, .int .i64 0] 46)) w.heap.size 41 3 [.int .i64 10, .string key, .string val] := (RowTo.whole w #[.int .i64 10, .string key, .string val] 41).alloc _
 have hzs : ((w.alloc (.cells #[.int .i64 10, .string key, .string val] 41)).alloc (.cells #[.int .i64 0, .string ⟨#[]⟩, .int .i64 0] 46)).heap.size = w.heap.size + 1 + 1 := by simp
 have hkey := klKey (s := key) (by omega)
 have hii : (i : Int) < (W.ss.length : Int) := by omega
 have H := hD h
 have H0 := hD h0
 have HZ := hD hz
 have HW := hD hw
 have B0 := hD b0
 have HX0 := hD X0
 have HY0 := hD Y0
 have HZS := hD hzs
 clear h h0 hz hw b0 X0 Y0 hzs hpr
 go_enter Tryz.func71, Tryz.ntmps71
 go_wp2_with fail
 refine (HCW.out _ (H0.out.wld HZ.out)).mono ?_
 rintro e w1 ⟨bm, n, M, rfl, hown, hmap, hn, hbm, hb1⟩
 have hs1 := hb1.size
 have H1 := hD (H0.out.kept hb1)
 have B1 := hD (bel_add' B0.out hb1 B0.out.size)
 have X1 := hD (HX0.out.below hb1 HX0.out.lt)
 have Y1 := HY0.out.below hb1 HY0.out.lt
 have q1 := Y1.cell (j := 1) (by simp)
 simp only [gCZ, gCS] at q1
 have HY1 := hD Y1
 have HO := hD hown
 have HM := hD hmap
 have HAT := hD (hmap.at_ key)
 have hhas : Maps.has M (kl key) = fndL (allL W) key := hmap.has key
 have hsize : Maps.size M = (allL W).length := hmap.size
 rw [HZS.out] at hs1
 have hbm' : w.heap.size + 1 + 1 ≤ bm := by rw [HZS.out] at hbm; exact hbm
 clear hown hmap hb1 Y1 x0 x1 hbm
 have g1 : decide ((0 : Int) < (cntL (W.ss.flatMap (·.wr)) key : Int)) = false := decide_eq_false (by omega)
 have g2 : decide (0 < cntL (W.ss.flatMap (·.wr)) key) = false := decide_eq_false (by omega)
 rw [hfn] at hhas
 have g3 : decide ((100 : Int) ≤ ((allL W).length : Int)) = false := decide_eq_false (by omega)
 have g4 : decide (100 ≤ (allL W).length) = false := decide_eq_false (by omega)
 go_wp2_with (first
  | (at_lookup; refine wpList_lookup_own_ok_int _ rfl _ _ 162 rfl 9 3 .i64 strLaw Tryz.underlying162 Tryz.underlying3 (zeroInt _) bm n _ rfl HO.out _ _ rfl hkey ?_; intro q hat hwq; obtain rfl : q = (cntL (W.ss.flatMap (·.wr)) key : Int) := (lit_inj (HAT.out.symm.trans hat)).symm; clear hat hwq)
  | go_in)
 have q4 : w1.cell? ⟨S, i * 5 + 4, none⟩ = some (.slice (some ⟨G i 3, 0, none⟩) W.ss[i].wr.length (C i 3)) := H1.out.cs i 3 hi (by omega)
 have hl4 := hD (show Lst w1 w1.heap.size (.slice (some ⟨G i 3, 0, none⟩) W.ss[i].wr.length (C i 3)) W.ss[i].wr from H1.out.list HZ.out hi (j := 3) (by omega))
 have hz0 : w.heap.size < w1.heap.size := by omega
 have hz1 : S < w1.heap.size := H1.out.blk.lt
 have kb := Below.refl w1.heap.size w1
 have dS := hD (show w1.drew.cell? ⟨S, i * 5 + 4, none⟩ = some (.slice (some ⟨G i 3, 0, none⟩) W.ss[i].wr.length (C i 3)) ∧ w1.drew.cell? ⟨w.heap.size, 1, none⟩ = some (.string key) from ⟨q4, q1⟩)
 go_region_held3 (fun wx => wx.cell? ⟨S, i * 5 + 4, none⟩ = some (.slice (some ⟨G i 3, 0, none⟩) W.ss[i].wr.length (C i 3)) ∧ wx.cell? ⟨w.heap.size, 1, none⟩ = some (.string key))
  (first
   | with_reducible exact ⟨q4, q1⟩
   | with_reducible exact dS.out
   | with_reducible exact ⟨(kb.cell (p := ⟨S, i * 5 + 4, none⟩) hz1).trans q4, (kb.cell (p := ⟨w.heap.size, 1, none⟩) hz0).trans q1⟩)
  (first
   | (
    go_at_call 95
    refine (place_any _ W.ss[i].wr key _ (by first | exact hl4.out | exact (hl4.out.step ((Below.refl _ _).drew)) | exact (hl4.out.step (below_drewN (Below.refl _ _) _))) HWR.out).mono ?_
    rw [HOWN.out]
    rintro e w8 ⟨rfl, hy⟩
    have kb : Below w1.heap.size w1 w8 := by first | exact kb.trans (hy.mono kb.size) | exact kb.trans ⟨hy.os, hy.tape, hy.output, hy.size, fun i hi => hy.block i (Nat.lt_of_lt_of_le hi kb.size)⟩))
 have hs8 := kb.size
 have H8 := hD (H1.out.kept kb)
 have B8 := hD (bel_add' B1.out kb B1.out.size)
 have X8 := hD (X1.out.below kb X1.out.lt)
 have Y8 := hD (HY1.out.below kb HY1.out.lt)
 have O8 := hD (HO.out.kept (grown_of_below kb none) (by simp))
 clear kb q1 q4 dS
 have hlen := O8.out.len (t := 162) (e := 3) Tryz.underlying162
 have c0 := H8.out.st i hi
 have e9 : (W.ss[i].st == 1) = false := beq_eq_false_iff_ne.2 hst
 have pc : w8.cell? ⟨X, 0, none⟩ = some (.slice (some ⟨gR, 0, none⟩) W.rows.length cR) := by have := H8.out.box.cell (j := 0) (by simp); simpa [slc] using this
 have pf := H8.out.box.frozen 0
 have hneg : X ≠ gR := Ne.symm H8.out.neRX
 have hgw : gR < w.heap.size := H.out.rows.row.lt
 have hpw : X < w.heap.size := hXw
 have HSTORE := hD (fun (w9 : World) (ho9 : OwnL w9 gR cR W.rows) (hp9 : w9.cell? ⟨X, 0, none⟩ = some (.slice (some ⟨gR, 0, none⟩) W.rows.length cR)) (hf9 : w9.frozen? ⟨X, 0, none⟩ = false) => store_ok gR cR X 0 W.rows 10 key val 100 w9 ho9 HRR.out (by have := HZ.out.rows.1; omega) (HZ.out.rows.sz) hp9 hf9 hneg (by omega) (by omega) HROOM.out)
 have O9 := hD (show OwnL w8 gR cR W.rows from H8.out.rows)
 have PC := hD (And.intro pc pf)
 have hw8 : w.heap.size < w8.heap.size := by omega
 have hR8 : w.heap.size + 1 < w8.heap.size := by omega
 have y0 := Y8.out.cell (j := 0) (by simp)
 have y1 := Y8.out.cell (j := 1) (by simp)
 have y2 := Y8.out.cell (j := 2) (by simp)
 simp only [gCZ, gCS] at y0 y1 y2
 clear pc pf
 go_wp2
 have dS := hD (show w8.drew.cell? ⟨w.heap.size, 0, none⟩ = some (.int .i64 10) ∧ w8.drew.cell? ⟨w.heap.size, 1, none⟩ = some (.string key) ∧ w8.drew.cell? ⟨w.heap.size, 2, none⟩ = some (.string val) from ⟨y0, y1, y2⟩)
 have hne1 : w.heap.size ≠ gR := by omega
 have hne2 : w.heap.size ≠ X := by omega
 have hne3 : w.heap.size + 1 ≠ gR := by omega
 have hne4 : w.heap.size + 1 ≠ X := by omega
 go_region_held3 (fun wx => wx.cell? ⟨w.heap.size, 0, none⟩ = some (.int .i64 10) ∧ wx.cell? ⟨w.heap.size, 1, none⟩ = some (.string key) ∧ wx.cell? ⟨w.heap.size, 2, none⟩ = some (.string val))
  (first
   | with_reducible exact ⟨y0, y1, y2⟩
   | with_reducible exact dS.out
   | with_reducible exact ⟨cell_set3' z0 (by omega), cell_set3' z1 (by omega), cell_set3' z2 (by omega)⟩
   | with_reducible exact ⟨z0, z1, z2⟩)
  (first
   | (
    go_at_call 70
    refine (HSTORE.out _ (by first | exact O9.out | exact O9.out.same rfl) (by first | exact PC.out.1 | assumption) (by first | exact PC.out.2 | assumption)).mono ?_
    rintro e wB ⟨g', c', rfl, ho', hl', hc⟩
    have hcB : Chg w8 wB gR X 0 (.slice (some ⟨g', 0, none⟩) (insL W.rows key val).length c') := ⟨hc.os, hc.tape, hc.output, hc.size, hc.other, hc.here⟩
    have hlB : g' = gR ∨ w8.heap.size ≤ g' := hl'
    have z0 := (World.cell?_of_block (a := ⟨w.heap.size, 0, none⟩) (hcB.other _ hw8 hne1 hne2)).trans y0
    have z1 := (World.cell?_of_block (a := ⟨w.heap.size, 1, none⟩) (hcB.other _ hw8 hne1 hne2)).trans y1
    have z2 := (World.cell?_of_block (a := ⟨w.heap.size, 2, none⟩) (hcB.other _ hw8 hne1 hne2)).trans y2
    have RB := X8.out.same (hcB.other _ hR8 hne3 hne4)
    have r0 := RB.cell (j := 0) (by simp)
    have r1 := RB.cell (j := 1) (by simp)
    have r2 := RB.cell (j := 2) (by simp)
    have s0 := RB.frozen 0
    have s1 := RB.frozen 1
    have s2 := RB.frozen 2
    simp only [gCZ, gCS] at r0 r1 r2
    unfold ansV))
 have HZ8 := hD (And.intro ho' (And.intro hlB hcB))
 clear ho' hlB hcB hl' hc RB z0 z1 z2
 go_wp2
 refine bodyPost_ret (v := .agg #[.int .i64 1, .string ⟨#[]⟩, .int .i64 0]) (by simp [results, Tryz.results71, go_sem, r0, r1, r2]) rfl ?_
 obtain ⟨a1, a2, a3⟩ := HZ8.out
 have ch := (((a3.pull B8.out hpw).setN (p := ⟨w.heap.size + 1, 0, none⟩) (by simp) hpw (.int .i64 1)).setN (p := ⟨w.heap.size + 1, 1, none⟩) (by simp) hpw (.string ⟨#[]⟩)).setN (p := ⟨w.heap.size + 1, 2, none⟩) (by simp) hpw (.int .i64 0)
 have hgR : w.heap.size + 1 ≠ g' := by rcases a2 with hh | hh <;> omega
 have oF : OwnL (((wB.setCell ⟨w.heap.size + 1, 0, none⟩ (.int .i64 1)).setCell ⟨w.heap.size + 1, 1, none⟩ (.string ⟨#[]⟩)).setCell ⟨w.heap.size + 1, 2, none⟩ (.int .i64 0)) g' c' (insL W.rows key val) := ⟨((a1.row.other hgR _).other hgR _).other hgR _, a1.len, a1.most⟩
 have hlg : base ≤ g' := by have q1 := lo.r; rcases a2 with hh | hh <;> omega
 exact ⟨rfl, H.out.storedR lo hlg HZ.out hi (by have h1 := plusL_len W.rows key val; rw [plus_ins HRR.out] at h1; have := HZ.out.rows.1; omega) (HZ.out.rows.sz.ins (by omega) (by omega)) oF ch, ch.bel lo.r lo.x hb, fun b hb h1 _ h3 _ => ch.other b hb h3 h1⟩
end Go.Proofs.YtpbaobmegomfpabGreatDoor
namespace Go.Proofs.YtpbaobmegomfpabGreatDoor
open Go.RowKit Go.Maps Go.WideMaps
def ExPost (w : World) (base X S gR : Nat) (G : Nat → Nat → Nat) (n : Nat) (r : Wd × Ans) (e : Ending) (w' : World) : Prop := e = .returned (ansV r.2.kind r.2.text) ∧ EndW w' base X S r.1 ∧ Below base w w' ∧ Rest w w' X S gR G n
theorem OwnD.ends {w : World} {base X S gR cR : Nat} {G C : Nat → Nat → Nat} {W : Wd} (h : OwnD w X S gR cR G C W) (lo : LoD base X S gR G W.ss.length) (hz : SzW W) : EndW w base X S W :=
 ⟨⟨_, h.box, h.wld hz, LoV.slc lo.r⟩, h.blk, lo.x, lo.s, fun k j v hk hj hv => by rw [h.cs k j hk hj] at hv; injection hv with hv; rw [← hv]; exact lo.v hk hj⟩
theorem ExPost.same {w w' : World} {base X S gR cR : Nat} {G C : Nat → Nat → Nat} {W : Wd} {k : Int} {t : ByteArray} (h : OwnD w X S gR cR G C W) (lo : LoD base X S gR G W.ss.length) (hz : SzW W) (hb : base ≤ w.heap.size) {e : Ending} (he : e = .returned (ansV k t)) (b : Below w.heap.size w w') {n : Nat} : ExPost w base X S gR G n (W, ⟨k, t⟩) e w' :=
 ⟨he, (h.kept b).ends lo hz, b.mono hb, fun c hc _ _ _ _ => b.block c hc⟩
theorem ExPost.done {w w' : World} {base X S gR n : Nat} {G : Nat → Nat → Nat} {W : Wd} {e : Ending} (h : DonePost w base X S gR G n W e w') : ExPost w base X S gR G n (W, ok') e w' := h
theorem RowTo.out_ {w : World} {g t n : Nat} {xs : List Value} (h : RowTo w g t n xs) {j : Nat} (hj : n ≤ j) : w.cell? ⟨g, j, none⟩ = none := by
 obtain ⟨cur, hh, hs, hx⟩ := h
 unfold World.cell?
 simp only [hh]
 show cur[j]? = _
 exact Array.getElem?_eq_none (by omega)
theorem RowTo.type {w : World} {g t n t' n' : Nat} {xs ys : List Value} (h : RowTo w g t n xs) (k : RowTo w g t' n' ys) : t = t' := by
 obtain ⟨cur, hh, _⟩ := h
 obtain ⟨cur', hk, _⟩ := k
 rw [hh] at hk
 injection hk with hk
 injection hk
theorem Lst.off {w w' : World} {B R : Nat} {v : Value} {l : PL} {x y : Int} {s : ByteArray} (hR : RowTo w R 46 3 [.int .i64 x, .string s, .int .i64 y]) (h : Lst w B v l) (hk : ∀ b, b ≠ R → w'.heap[b]? = w.heap[b]?) : Lst w' B v l := by
 refine ⟨h.form, h.bytes, h.sizes, fun hn => ?_, h.nil⟩
 obtain ⟨b, off, c, e, hb, hc⟩ := h.cells hn
 have hne : b ≠ R := by
  rintro rfl
  obtain ⟨h1, h2⟩ := hc 0 hn
  rw [Nat.zero_mul, Nat.add_zero] at h1 h2
  have r0 := hR.cell (j := 0) (by simp)
  have r2 := hR.cell (j := 2) (by simp)
  simp only [gCZ, gCS] at r0 r2
  rcases Nat.lt_or_ge off 3 with ho | ho
  ·obtain rfl | rfl | rfl : off = 0 ∨ off = 1 ∨ off = 2 := by omega
   ·rw [r0] at h1; cases h1
   ·rw [r2] at h2; cases h2
   ·rw [r2] at h1; cases h1
  ·rw [hR.out_ ho] at h1; cases h1
 exact ⟨b, off, c, e, hb, fun i hi => ⟨(World.cell?_of_block (hk b hne)).trans (hc i hi).1, (World.cell?_of_block (hk b hne)).trans (hc i hi).2⟩⟩
theorem EndW.off {w w' : World} {base X S R : Nat} {W : Wd} {x y : Int} {s : ByteArray} (h : EndW w base X S W) (hR : RowTo w R 46 3 [.int .i64 x, .string s, .int .i64 y]) (hs : w'.heap.size = w.heap.size) (hk : ∀ b, b ≠ R → w'.heap[b]? = w.heap[b]?) : EndW w' base X S W := by
 obtain ⟨r, hbox, ⟨hr, hss⟩, hlr⟩ := h.box
 have hX : X ≠ R := by rintro rfl; exact absurd (hbox.type hR) (by decide)
 have hS : S ≠ R := by intro e; have k := h.blk; rw [e] at k; exact absurd (k.type hR) (by decide)
 refine ⟨⟨r, hbox.same (hk X hX), ⟨?_, ?_⟩, hlr⟩, h.blk.same (hk S hS), h.loX, h.loS, fun k j v hk' hj hv => h.los k j v hk' hj ((World.cell?_of_block (hk S hS)).symm.trans hv)⟩
 ·rw [hs]; exact hr.off hR hk
 ·rw [hs]
  refine ⟨hss.form, hss.bytes, fun hn => ?_⟩
  obtain ⟨b, off, c, e, hb, hc⟩ := hss.cells hn
  refine ⟨b, off, c, e, hb, fun i hi => ?_⟩
  obtain ⟨v1, v2, v3, v4, q⟩ := hc i hi
  have hbS : b = S := by unfold slc at e; injection e with e; injection e with e; injection e with e; exact e.symm
  have cs : ∀ j, w'.cell? ⟨b, j, none⟩ = w.cell? ⟨b, j, none⟩ := fun j => World.cell?_of_block (hk b (by rw [hbS]; exact hS))
  exact ⟨v1, v2, v3, v4, (cs _).trans q.c0, (cs _).trans q.c1, (cs _).trans q.c2, (cs _).trans q.c3, (cs _).trans q.c4, q.l1.off hR hk, q.l2.off hR hk, q.l3.off hR hk, q.l4.off hR hk⟩
theorem ExPost.laid {w w0 wB : World} {base X S gR n R : Nat} {G : Nat → Nat → Nat} {r : Wd × Ans} {e : Ending} {x y : Int} {s : ByteArray} (h : ExPost w0 base X S gR G n r e wB) (b : Below w.heap.size w w0) (hb : base ≤ w.heap.size) (hw : w.heap.size ≤ R)
  (hR : RowTo wB R 46 3 [.int .i64 x, .string s, .int .i64 y]) (p1 p2 p3 : Value) :
  ExPost w base X S gR G n r (.returned (ansV r.2.kind r.2.text)) (((wB.setCell ⟨R, 0, none⟩ p1).setCell ⟨R, 1, none⟩ p2).setCell ⟨R, 2, none⟩ p3) := by
 obtain ⟨_, h2, h3, h4⟩ := h
 have hk : ∀ c, c ≠ R → (((wB.setCell ⟨R, 0, none⟩ p1).setCell ⟨R, 1, none⟩ p2).setCell ⟨R, 2, none⟩ p3).heap[c]? = wB.heap[c]? := fun c hc => by
  rw [Below.heap_setCell _ _ _ _ hc, Below.heap_setCell _ _ _ _ hc, Below.heap_setCell _ _ _ _ hc]
 have hsz : (((wB.setCell ⟨R, 0, none⟩ p1).setCell ⟨R, 1, none⟩ p2).setCell ⟨R, 2, none⟩ p3).heap.size = wB.heap.size := by simp [World.setCell]
 refine ⟨rfl, h2.off hR hsz hk, ?_, fun c hc a1 a2 a3 a4 => ?_⟩
 ·exact ((((b.mono hb).trans h3).setCell (by show base ≤ R; omega) _).setCell (by show base ≤ R; omega) _).setCell (by show base ≤ R; omega) _
 ·rw [hk c (by omega), h4 c (by have := b.size; omega) a1 a2 a3 a4]
  exact b.block c hc
theorem cnt_fnd : ∀ {l : PL} {key : ByteArray}, 1 ≤ cntL l key → fndL l key = true
 | [], _, h => by simp [cntL] at h
 | p :: l, key, h => by
  rw [cntL_cons] at h
  have ih := cnt_fnd (l := l) (key := key)
  unfold fndL at ih ⊢
  cases e : eqB p.1 key
  ·rw [e] at h
   simp only [atL, e]
   exact ih (by simpa using h)
  ·simp only [atL, e]
   rfl
theorem put_any (base X S gR cR : Nat) (G C : Nat → Nat → Nat) (W : Wd) (i : Nat) (key val : ByteArray) (w : World) (h : OwnD w X S gR cR G C W) (lo : LoD base X S gR G W.ss.length) (hw : WorldOk W) (hb : base ≤ w.heap.size) (hi : i < W.ss.length) (hkz : key.size ≤ 8) (hvz : val.size ≤ 60) (hst : W.ss[i].st ≠ 2) :
  Calls Tryz.prog 71 #[.pointer (some ⟨X, 0, none⟩), .int .i64 i, .agg #[.int .i64 10, .string key, .string val]] w (ExPost w base X S gR G W.ss.length (did1 W i 10 key val)) := by
 have hz := worldOk_sz hw
 have hrw := (pairsB_rising (hw.sess i hi).wr).1
 have hrr := (pairsB_rising hw.rows).1
 have hd : did1 W i 10 key val = (if heldB W.ss i key = true then (W, no' tHeld)
  else if fndL (allL W) key = false ∧ 100 ≤ (allL W).length then (W, no' tFull)
  else if W.ss[i].st = 1 then (W.put i { W.ss[i] with wr := insL W.ss[i].wr key val }, ok')
  else (⟨insL W.rows key val, W.ss⟩, ok')) := by
  unfold did1
  simp only [getD_at hi, plus_ins hrw, plus_ins hrr]
  rw [if_neg (fun hh => hst hh.1)]
  simp
 rw [hd]
 have hcn := held_cnt hw hi key
 by_cases h1 : heldB W.ss i key = true
 ·rw [if_pos h1]
  exact (put_held base X S gR cR G C W i key val w h lo hw hb hi hkz hvz h1).mono fun e w' hh => ExPost.same h lo hz hb hh.1 hh.2
 rw [if_neg h1]
 rw [Bool.not_eq_true] at h1
 rw [h1] at hcn
 cases ho : fndL W.ss[i].wr key
 ·have hc0 : cntL (W.ss.flatMap (·.wr)) key = 0 := by
   rw [ho] at hcn
   simp at hcn
   exact hcn
  by_cases h2 : fndL (allL W) key = false ∧ 100 ≤ (allL W).length
  ·rw [if_pos h2]
   exact (put_full_none base X S gR cR G C W i key val w h lo hw hb hi hkz hvz ho hc0 h2.1 h2.2).mono fun e w' hh => ExPost.same h lo hz hb hh.1 hh.2
  rw [if_neg h2]
  cases hf : fndL (allL W) key
  ·have hfl : (allL W).length < 100 := by
    rcases Nat.lt_or_ge (allL W).length 100 with hh | hh
    ·exact hh
    ·exact absurd ⟨hf, hh⟩ h2
   by_cases h3 : W.ss[i].st = 1
   ·rw [if_pos h3]
    exact (put_wr_new base X S gR cR G C W i key val w h lo hw hb hi hkz hvz ho hc0 hf hfl h3).mono fun e w' hh => ExPost.done hh
   ·rw [if_neg h3]
    exact (put_row_new base X S gR cR G C W i key val w h lo hw hb hi hkz hvz ho hc0 hf hfl h3).mono fun e w' hh => ExPost.done hh
  ·by_cases h3 : W.ss[i].st = 1
   ·rw [if_pos h3]
    exact (put_wr_is base X S gR cR G C W i key val w h lo hw hb hi hkz hvz ho hc0 hf h3).mono fun e w' hh => ExPost.done hh
   ·rw [if_neg h3]
    exact (put_row_is base X S gR cR G C W i key val w h lo hw hb hi hkz hvz ho hc0 hf h3).mono fun e w' hh => ExPost.done hh
 ·have hf : fndL (allL W) key = true := by
   cases hf : fndL (allL W) key
   ·exfalso
    have h5 := allF_fnd (R := W.rows) (k := key) hrr (W.ss.flatMap (·.wr))
    rw [show allF W.rows (W.ss.flatMap (·.wr)) = allL W from rfl, hf] at h5
    have h6 : 1 ≤ cntL (W.ss.flatMap (·.wr)) key := Nat.le_trans ((some_cnt hrw).2 ho) (cnt_one hi)
    have h7 : fndL (W.ss.flatMap (·.wr)) key = true := cnt_fnd h6
    rw [h7] at h5
    simp at h5
   ·rfl
  rw [if_neg (fun hh => by rw [hf] at hh; cases hh.1)]
  by_cases h3 : W.ss[i].st = 1
  ·rw [if_pos h3]
   exact (put_wr_own base X S gR cR G C W i key val w h lo hw hb hi hkz hvz ho hf h3).mono fun e w' hh => ExPost.done hh
  ·exfalso
   have h8 := (hw.sess i hi).tx h3
   rw [h8] at ho
   cases ho
end Go.Proofs.YtpbaobmegomfpabGreatDoor
namespace Go.Proofs.YtpbaobmegomfpabGreatDoor
open Go.RowKit
set_option maxHeartbeats 1000000 in
theorem end_no (w : World) (p q : Addr) (k : Int) (hc : w.cell? p = some (.int .i64 0)) :
  Calls Tryz.prog 66 #[.pointer (some q), .pointer (some p), .int .i64 k] w fun e w' => e = .returned (ansV 4 tNoTx) ∧ Below w.heap.size w w' := by
 have hp := World.block_lt_of_cell? w _ hc
 go_enter Tryz.func66, Tryz.ntmps66
 go_wp2_with fail
 refine (failure_any tNoTx _).mono ?_
 rintro e w9 ⟨rfl, hb9⟩
 have X9 := (RowTo.whole w #[.int .i64 0, .string ⟨#[]⟩, .int .i64 0] 46).below hb9 (by simp)
 have r0 := X9.cell (j := 0) (by simp)
 have r1 := X9.cell (j := 1) (by simp)
 have r2 := X9.cell (j := 2) (by simp)
 have s0 := X9.frozen 0
 have s1 := X9.frozen 1
 have s2 := X9.frozen 2
 simp only [gCZ, gCS] at r0 r1 r2
 have B9 := hD (bel_add' ((Below.refl w.heap.size w).alloc (nL _) _) hb9 (by simp))
 clear X9 hb9
 unfold ansV
 go_wp2
 refine bodyPost_ret (v := .agg #[.int .i64 4, .string tNoTx, .int .i64 0]) (by simp [results, Tryz.results66, go_sem, r0, r1, r2]) rfl ⟨rfl, ?_⟩
 exact ((B9.out.setCell (by simp) _).setCell (by simp) _).setCell (by simp) _
set_option maxHeartbeats 2000000 in
theorem end_back (base X S gR cR : Nat) (G C : Nat → Nat → Nat) (W : Wd) (i : Nat) (k : Int) (w : World) (h : OwnD w X S gR cR G C W) (lo : LoD base X S gR G W.ss.length) (hz : SzW W) (hb : base ≤ w.heap.size) (hi : i < W.ss.length) (hst : W.ss[i].st ≠ 0) (hk : ¬ (k = 2 ∧ W.ss[i].st = 1)) :
  Calls Tryz.prog 66 #[.pointer (some ⟨X, 0, none⟩), .pointer (some ⟨S, i * 5, none⟩), .int .i64 k] w (DonePost w base X S gR G W.ss.length (W.put i { W.ss[i] with st := 0, set := W.ss[i].sav, sav := [], wr := [] })) := by
 have c0 := h.st i hi
 have c3 : w.cell? ⟨S, i * 5 + 3, none⟩ = some (.slice (some ⟨G i 2, 0, none⟩) W.ss[i].sav.length (C i 2)) := h.cs i 2 hi (by omega)
 have hSw := h.blk.lt
 have f0 := h.blk.frozen (i * 5)
 have f1 := h.blk.frozen (i * 5 + 1)
 have f3 := h.blk.frozen (i * 5 + 3)
 have f4 := h.blk.frozen (i * 5 + 4)
 obtain ⟨u1, d1⟩ := h.blk.any (j := i * 5 + 1) (by omega)
 obtain ⟨u4, d4⟩ := h.blk.any (j := i * 5 + 4) (by omega)
 have e0 : (W.ss[i].st == 0) = false := beq_eq_false_iff_ne.2 hst
 have hcase : (k == 2) = false ∨ ((k == 2) = true ∧ (W.ss[i].st == 1) = false) := by
  by_cases h2 : k = 2
  ·exact .inr ⟨beq_iff_eq.2 h2, beq_eq_false_iff_ne.2 (fun h1 => hk ⟨h2, h1⟩)⟩
  ·exact .inl (beq_eq_false_iff_ne.2 h2)
 have H := hD h
 have HZ := hD hz
 clear h hst hk
 rcases hcase with hk | ⟨hk, hk1⟩
 all_goals
  go_enter Tryz.func66, Tryz.ntmps66
  go_wp2_with fail
  have ch1 := (((((Chs.refl w S).setS (j := i * 5 + 1) (.slice (some ⟨G i 2, 0, none⟩) W.ss[i].sav.length (C i 2))).setS (j := i * 5) (.int .i64 0)).setS (j := i * 5 + 3) (.slice none 0 0)).setS (j := i * 5 + 4) (.slice none 0 0)).alloc hSw (.cells #[.int .i64 0, .string ⟨#[]⟩, .int .i64 0] 46)
  have X0 : RowTo (((((w.setCell ⟨S, i * 5 + 1, none⟩ (.slice (some ⟨G i 2, 0, none⟩) W.ss[i].sav.length (C i 2))).setCell ⟨S, i * 5, none⟩ (.int .i64 0)).setCell ⟨S, i * 5 + 3, none⟩ (.slice none 0 0)).setCell ⟨S, i * 5 + 4, none⟩ (.slice none 0 0)).alloc (.cells #[.int .i64 0, .string ⟨#[]⟩, .int .i64 0] 46)) w.heap.size 46 3 [.int .i64 0, .string ⟨#[]⟩, .int .i64 0] := by
   have := RowTo.whole ((((w.setCell ⟨S, i * 5 + 1, none⟩ (.slice (some ⟨G i 2, 0, none⟩) W.ss[i].sav.length (C i 2))).setCell ⟨S, i * 5, none⟩ (.int .i64 0)).setCell ⟨S, i * 5 + 3, none⟩ (.slice none 0 0)).setCell ⟨S, i * 5 + 4, none⟩ (.slice none 0 0)) #[.int .i64 0, .string ⟨#[]⟩, .int .i64 0] 46
   simpa [World.setCell] using this
  refine (done_any _).mono ?_
  rintro e w3 ⟨rfl, hy3⟩
  have ch3 := ch1.below hy3 ch1.size hSw
  have X3 := X0.below hy3 X0.lt
  have r0 := X3.cell (j := 0) (by simp)
  have r1 := X3.cell (j := 1) (by simp)
  have r2 := X3.cell (j := 2) (by simp)
  have s0 := X3.frozen 0
  have s1 := X3.frozen 1
  have s2 := X3.frozen 2
  simp only [gCZ, gCS] at r0 r1 r2
  have HC3 := hD ch3
  clear ch1 ch3 X0 X3 hy3
  unfold ansV
  go_wp2
  refine bodyPost_ret (v := .agg #[.int .i64 1, .string ⟨#[]⟩, .int .i64 0]) (by simp [results, Tryz.results66, go_sem, r0, r1, r2]) rfl ?_
  have ch := ((HC3.out.setN (p := ⟨w.heap.size, 0, none⟩) (nL _) hSw (.int .i64 1)).setN (p := ⟨w.heap.size, 1, none⟩) (nL _) hSw (.string ⟨#[]⟩)).setN (p := ⟨w.heap.size, 2, none⟩) (nL _) hSw (.int .i64 0)
  refine ⟨rfl, ?_, ch.bel lo.s hb, fun b hb _ h2 _ _ => ch.other b hb h2⟩
  have hh := H.out
  have hzz := HZ.out
  have hrow := (((hh.blk.hit (j := i * 5 + 1) (.slice (some ⟨G i 2, 0, none⟩) W.ss[i].sav.length (C i 2))).hit (j := i * 5) (.int .i64 0)).hit (j := i * 5 + 3) (.slice none 0 0)).hit (j := i * 5 + 4) (.slice none 0 0)
  refine hh.turned lo ?_ (v3 := .slice none 0 0) (v4 := .slice none 0 0) hzz hi ch hrow (fun k j hk hj => ?_) ?_ ?_ ?_ ?_ ?_ (hh.li_kept hzz hi (j := 2) (by omega) ch) (hh.li_kept hzz hi (j := 1) (by omega) ch) (Lst.none_ _ _) (Lst.none_ _ _)
  ·exact ⟨lo.v hi (by omega), lo.v hi (by omega), LoV.non _ _ _, LoV.non _ _ _⟩
  ·rw [cell_off _ (by omega), cell_off _ (by omega), cell_off _ (by omega), cell_off _ (by omega)]
  ·rw [cell_off _ (by omega), cell_off _ (by omega)]; exact cell_put (hh.blk.hit _) (by omega) _
  ·rw [cell_off _ (by omega), cell_off _ (by omega), cell_off _ (by omega)]; exact cell_put hh.blk (by omega) _
  ·rw [cell_off _ (by omega), cell_off _ (by omega), cell_off _ (by omega), cell_off _ (by omega)]; exact hh.cs i 1 hi (by omega)
  ·rw [cell_off _ (by omega)]; exact cell_put ((hh.blk.hit _).hit _) (by omega) _
  ·exact cell_put (((hh.blk.hit _).hit _).hit _) (by omega) _
end Go.Proofs.YtpbaobmegomfpabGreatDoor
namespace Go.Proofs.YtpbaobmegomfpabGreatDoor
open Go.RowKit
theorem plusF_step {rows l : PL} {k : Nat} (hk : k < l.length) : plusF rows (l.take (k + 1)) = plusL (plusF rows (l.take k)) l[k].1 l[k].2 := by
 unfold plusF
 rw [List.take_succ_eq_append_getElem hk, List.foldl_append]; rfl
theorem plusF_rising {rows : PL} (h : risingB rows = true) : ∀ l : PL, risingB (plusF rows l) = true := by
 intro l
 unfold plusF
 induction l generalizing rows with
 | nil => exact h
 | cons p l ih => rw [List.foldl_cons]; exact ih (by rw [plus_ins h]; exact ins_rising h)
theorem plusF_len (rows : PL) : ∀ l : PL, (plusF rows l).length ≤ rows.length + l.length := by
 intro l
 unfold plusF
 induction l generalizing rows with
 | nil => simp
 | cons p l ih =>
  rw [List.foldl_cons]
  have h1 := ih (plusL rows p.1 p.2)
  have h2 := plusL_len rows p.1 p.2
  simp only [List.length_cons]; omega
theorem plusF_sz {rows : PL} (h : Sz rows) : ∀ {l : PL}, Sz l → Sz (plusF rows l) := by
 intro l
 unfold plusF
 induction l generalizing rows with
 | nil => intro _; exact h
 | cons p l ih =>
  intro hl
  rw [List.foldl_cons]
  refine ih (fun q hq => ?_) (fun q hq => hl q (by simp [hq]))
  rcases plusL_mem hq with rfl | hq
  ·exact hl p (by simp)
  ·exact h q hq
def ComRel (w : World) (X S gR : Nat) (W : Wd) (l : PL) (k : Nat) (wr : World) : Prop :=
 ∃ g c, OwnL wr g c (plusF W.rows (l.take k)) ∧ (g = gR ∨ w.heap.size + 1 ≤ g) ∧ RowTo wr w.heap.size 46 3 [.int .i64 0, .string ⟨#[]⟩, .int .i64 0] ∧
  RowTo wr X 39 2 [slc g (plusF W.rows (l.take k)).length c, slc S W.ss.length W.ss.length] ∧ w.heap.size + 1 ≤ wr.heap.size ∧ wr.os = w.os ∧ wr.tape = w.tape ∧ wr.output = w.output ∧ ∀ b, b < w.heap.size → b ≠ gR → b ≠ X → wr.heap[b]? = w.heap[b]?
set_option maxHeartbeats 4000000 in
theorem end_commit (base X S gR cR : Nat) (G C : Nat → Nat → Nat) (W : Wd) (i : Nat) (w : World) (h : OwnD w X S gR cR G C W) (lo : LoD base X S gR G W.ss.length) (hz : SzW W) (hr : risingB W.rows = true) (hb : base ≤ w.heap.size) (hi : i < W.ss.length) (hst : W.ss[i].st = 1) :
  Calls Tryz.prog 66 #[.pointer (some ⟨X, 0, none⟩), .pointer (some ⟨S, i * 5, none⟩), .int .i64 2] w (DonePost w base X S gR G W.ss.length ⟨plusF W.rows W.ss[i].wr, W.ss.set i { W.ss[i] with st := 0, sav := [], wr := [] }⟩) := by
 have c0 := h.st i hi
 rw [hst] at c0
 have c4 : w.cell? ⟨S, i * 5 + 4, none⟩ = some (.slice (some ⟨G i 3, 0, none⟩) W.ss[i].wr.length (C i 3)) := h.cs i 3 hi (by omega)
 have hSw := h.blk.lt
 have hXw := h.box.lt
 have hRw := h.rows.row.lt
 have hGw := (h.ls i 3 hi (by omega)).row.lt
 have n1 := h.neXS
 have n2 := h.neRX
 have n3 := h.neRS
 have n4 := h.neGX i 3 hi (by omega)
 have n5 := h.neGR i 3 hi (by omega)
 have h100 : W.ss[i].wr.length ≤ 100 := (hz.li i 3 hi (by omega)).1
 have hr100 := hz.rows.1
 have HL := hD (show OwnL w (G i 3) (C i 3) W.ss[i].wr from h.ls i 3 hi (by omega))
 have HLz := hD (show Sz W.ss[i].wr from (hz.li i 3 hi (by omega)).sz)
 have H := hD h
 have HZ := hD hz
 have HR := hD hr
 clear h hst hr
 have HW := hD (rfl : W.ss[i].wr = W.ss[i].wr)
 generalize hl : W.ss[i].wr = l at *
 have HWR := hD hl
 clear hl HW
 go_enter Tryz.func66, Tryz.ntmps66
 go_wp2
 go_loopw [29] (fun j wr => ∃ k : Nat, k ≤ l.length ∧ j = .int .i64 k ∧ ComRel w X S gR W l k wr) (fun j _ => l.length - (intOf j).toNat)
 case atStart =>
  refine ⟨0, by omega, rfl, gR, cR, H.out.rows.below ((Below.refl w.heap.size w).alloc (nL _) _) hRw, .inl rfl, RowTo.whole w #[.int .i64 0, .string ⟨#[]⟩, .int .i64 0] 46, H.out.box.alloc _, by simp, rfl, rfl, rfl, fun b hb _ _ => Below.heap_alloc _ _ _ hb⟩
 case round =>
  obtain ⟨k, hk, rfl, g, c, hown, hloc, hres, hbox, hsz, ho1, ho2, ho3, hoth⟩ := hrel
  by_cases hlt : k < l.length
  ·have hG : wr.heap[G i 3]? = w.heap[G i 3]? := hoth _ hGw n5 n4
   have hlk := (HL.out.same hG).row
   have d0 := hlk.cell (j := k * 2) (by rw [flat_length]; omega)
   have d1 := hlk.cell (j := k * 2 + 1) (by rw [flat_length]; omega)
   have e0 := flat_fst l k hlt
   have e1 := flat_snd l k hlt
   rw [List.getElem?_eq_getElem (by rw [flat_length]; omega)] at e0 e1
   rw [Option.some.inj e0] at d0
   rw [Option.some.inj e1] at d1
   have x0 := hbox.cell (j := 0) (by simp)
   simp only [gCZ] at x0
   have xf := hbox.frozen 0
   have hxl := hbox.lt
   have hgl := hown.row.lt
   have hpl := plusF_len W.rows (l.take k)
   have htl : (l.take k).length = k := by rw [List.length_take]; omega
   rw [htl] at hpl
   have hrr := plusF_rising HR.out (l.take k)
   have hss : Sz (plusF W.rows (l.take k)) := plusF_sz HZ.out.rows.sz (fun p hp => HLz.out p (List.mem_of_mem_take hp))
   have HS := hD ((plusF_step (rows := W.rows) hlt).trans (plus_ins hrr))
   have HI := hD (fun (w9 : World) (h9 : OwnL w9 g c (plusF W.rows (l.take k))) => backInsert_any g c _ l[k].1 l[k].2 w9 h9 hrr (by omega) hss)
   have HO := hD hown
   have HX := hD hbox
   have HY := hD hres
   have HK := hD (And.intro ho1 (And.intro ho2 (And.intro ho3 hoth)))
   clear hG hlk e0 e1 hpl htl hrr hss hown hbox hres ho1 ho2 ho3 hoth
   unfold slc at x0
   go_wp2
   clear d0 d1
   have b0 : Below wr.heap.size wr (wr.alloc (.cells #[.string l[k].1, .string l[k].2] 60)) := (Below.refl _ _).alloc (nL _) _
   have p0 : (wr.alloc (.cells #[.string l[k].1, .string l[k].2] 60)).cell? ⟨wr.heap.size, 0, none⟩ = some (.string l[k].1) := by simp [go_sem]
   have p1 : (wr.alloc (.cells #[.string l[k].1, .string l[k].2] 60)).cell? ⟨wr.heap.size, 1, none⟩ = some (.string l[k].2) := by simp [go_sem]
   have y0 := (b0.cell (p := ⟨X, 0, none⟩) hxl).trans x0
   have O0 := hD (HO.out.below b0 hgl)
   have X0 := hD (HX.out.below b0 hxl)
   have R0 := hD (HY.out.below b0 HY.out.lt)
   have hz0 : (wr.alloc (.cells #[.string l[k].1, .string l[k].2] 60)).heap.size = wr.heap.size + 1 := by simp
   have B0 := hD b0
   clear b0 x0 xf
   generalize wr.alloc (.cells #[.string l[k].1, .string l[k].2] 60) = W0 at *
   have hw0 : wr.heap.size < W0.heap.size := by omega
   have HZ0 := hD hz0
   clear hz0
   go_region_with (first
    | (
     go_at_call 94
     refine (HI.out _ (by first | exact O0.out | exact O0.out.same rfl)).mono ?_
     rintro e wB ⟨g', c', rfl, ho', hl', hgr⟩
     have hgB : W0.grownBy wB (some g) := ⟨hgr.os, hgr.tape, hgr.output, hgr.size, hgr.block⟩
     have hl8 : g' = g ∨ W0.heap.size ≤ g' := hl'
     have hXg : X ≠ g := by rcases hloc with h | h <;> omega
     have X1 := X0.out.same (hgB.block X X0.out.lt (fun e => hXg (by injection e)))
     have q0 := X1.cell (j := 0) (by simp)
     have qf := X1.frozen 0
     simp only [gCZ] at q0
     unfold slc at q0))
   all_goals
    have HZ8 := hD (And.intro ho' (And.intro hl8 (And.intro hgB X1)))
    clear ho' hl8 hgB X1 hl' hgr q0 qf
    go_wp2
    go_roundw
    case rel =>
     obtain ⟨a1, a2, a3, a4⟩ := HZ8.out
     obtain ⟨k1, k2, k3, k4⟩ := HK.out
     have hsB := a3.size
     have hgX : X ≠ g' := by rcases a2 with h | h <;> omega
     have hwg : w.heap.size ≠ g := by rcases hloc with h | h <;> omega
     have hl9 : g' = gR ∨ w.heap.size + 1 ≤ g' := by
      rcases a2 with h | h
      ·rw [h]; exact hloc
      ·right; omega
     have hXR : X ≠ w.heap.size := by omega
     refine ⟨k + 1, by omega, by go_num, g', c', ?_, hl9, ?_, ?_, ?_, ?_, ?_, ?_, fun b hb h1 h2 => ?_⟩
     ·rw [HS.out]; exact ⟨a1.row.other hgX _, a1.len, a1.most⟩
     ·exact (R0.out.same (a3.block _ R0.out.lt (fun e => hwg (by injection e)))).other (p := ⟨X, 0, none⟩) hXR _
     ·rw [HS.out]; exact a4.put (by simp) _
     ·have : w.heap.size + 1 ≤ wB.heap.size := by omega
      simpa [World.setCell] using this
     ·exact (a3.os.trans B0.out.os).trans k1
     ·exact (a3.tape.trans B0.out.tape).trans k2
     ·exact (a3.output.trans B0.out.output).trans k3
     ·have hbg : b ≠ g := by rcases hloc with h | h <;> omega
      rw [Below.heap_setCell _ _ _ _ h2, a3.block b (by omega) (fun e => hbg (by injection e)), B0.out.block b (by omega)]
      exact k4 b hb h1 h2
    case measure => simp [intOf]; omega
  ·obtain rfl : k = l.length := by omega
   rw [List.take_length] at hown hbox
   have hSS : wr.heap[S]? = w.heap[S]? := hoth S hSw (Ne.symm n3) (Ne.symm n1)
   have hb9 := (H.out.blk.same hSS)
   have f0 := hb9.frozen (i * 5)
   have f3 := hb9.frozen (i * 5 + 3)
   have f4 := hb9.frozen (i * 5 + 4)
   obtain ⟨u0, d0⟩ := hb9.any (j := i * 5) (by omega)
   obtain ⟨u3, d3⟩ := hb9.any (j := i * 5 + 3) (by omega)
   obtain ⟨u4, d4⟩ := hb9.any (j := i * 5 + 4) (by omega)
   have HO := hD hown
   have HX := hD hbox
   have HY := hD hres
   have HK := hD (And.intro ho1 (And.intro ho2 (And.intro ho3 (And.intro hoth hSS))))
   have HB := hD hb9
   have hSr : S < wr.heap.size := by omega
   clear hown hbox hres ho1 ho2 ho3 hoth hSS hb9
   go_wp2_with fail
   have ch1 := ((((Chs.refl wr S).setS (j := i * 5) (.int .i64 0)).setS (j := i * 5 + 3) (.slice none 0 0)).setS (j := i * 5 + 4) (.slice none 0 0))
   have Y1 := ((HY.out.other (p := ⟨S, i * 5, none⟩) (by show S ≠ _; omega) (.int .i64 0)).other (p := ⟨S, i * 5 + 3, none⟩) (by show S ≠ _; omega) (.slice none 0 0)).other (p := ⟨S, i * 5 + 4, none⟩) (by show S ≠ _; omega) (.slice none 0 0)
   refine (done_any _).mono ?_
   rintro e w3 ⟨rfl, hy3⟩
   have ch3 := ch1.below hy3 ch1.size hSr
   have X3 := Y1.below hy3 Y1.lt
   have r0 := X3.cell (j := 0) (by simp)
   have r1 := X3.cell (j := 1) (by simp)
   have r2 := X3.cell (j := 2) (by simp)
   have s0 := X3.frozen 0
   have s1 := X3.frozen 1
   have s2 := X3.frozen 2
   simp only [gCZ, gCS] at r0 r1 r2
   have HC3 := hD ch3
   clear ch1 ch3 Y1 X3 hy3
   unfold ansV
   go_wp2
   refine bodyPost_ret (v := .agg #[.int .i64 1, .string ⟨#[]⟩, .int .i64 0]) (by simp [results, Tryz.results66, go_sem, r0, r1, r2]) rfl ?_
   obtain ⟨k1, k2, k3, k4, k5⟩ := HK.out
   have c3 := HC3.out
   obtain ⟨wF, hF⟩ : ∃ wF, wF = (((w3.setCell ⟨w.heap.size, 0, none⟩ (.int .i64 1)).setCell ⟨w.heap.size, 1, none⟩ (.string ⟨#[]⟩)).setCell ⟨w.heap.size, 2, none⟩ (.int .i64 0)) := ⟨_, rfl⟩
   rw [← hF]
   have blk : ∀ b, b ≠ w.heap.size → wF.heap[b]? = w3.heap[b]? := fun b hb => by
    rw [hF, Below.heap_setCell _ _ _ _ hb, Below.heap_setCell _ _ _ _ hb, Below.heap_setCell _ _ _ _ hb]
   have hszF : wr.heap.size ≤ wF.heap.size := by rw [hF]; have := c3.size; simpa [World.setCell] using this
   have old : ∀ b, b < w.heap.size → b ≠ gR → b ≠ X → b ≠ S → wF.heap[b]? = w.heap[b]? := fun b hb h1 h2 h3 => by
    rw [blk b (by omega), c3.other b (by omega) h3]; exact k4 b hb h1 h2
   have hfs : wF.heap[S]? = (((wr.setCell ⟨S, i * 5, none⟩ (.int .i64 0)).setCell ⟨S, i * 5 + 3, none⟩ (.slice none 0 0)).setCell ⟨S, i * 5 + 4, none⟩ (.slice none 0 0)).heap[S]? := (blk S (by omega)).trans c3.here
   have hXF : wF.heap[X]? = wr.heap[X]? := (blk X (by omega)).trans (c3.other X (by omega) n1)
   have hgS : g ≠ S := by rcases hloc with h | h <;> omega
   have hgF : wF.heap[g]? = wr.heap[g]? := (blk g (by rcases hloc with h | h <;> omega)).trans (c3.other g HO.out.row.lt hgS)
   have cc : ∀ j, wF.cell? ⟨S, j, none⟩ = (((wr.setCell ⟨S, i * 5, none⟩ (.int .i64 0)).setCell ⟨S, i * 5 + 3, none⟩ (.slice none 0 0)).setCell ⟨S, i * 5 + 4, none⟩ (.slice none 0 0)).cell? ⟨S, j, none⟩ := fun j => World.cell?_of_block hfs
   have cw : ∀ j, wr.cell? ⟨S, j, none⟩ = w.cell? ⟨S, j, none⟩ := fun j => World.cell?_of_block k5
   have hh := H.out
   have hzz := HZ.out
   have hrow := (((HB.out.hit (j := i * 5) (.int .i64 0)).hit (j := i * 5 + 3) (.slice none 0 0)).hit (j := i * 5 + 4) (.slice none 0 0)).same hfs
   have hl5 : Sz l := HLz.out
   have hpl := plusF_len W.rows l
   have lk : ∀ j, j < 4 → j ≠ 3 → j ≠ 2 → Lst wF wF.heap.size (slc (G i j) (W.ss[i].li j).length (C i j)) (W.ss[i].li j) := fun j hj _ _ =>
    ((hh.ls i j hi hj).same (old _ (hh.ls i j hi hj).row.lt (hh.neGR i j hi hj) (hh.neGX i j hi hj) (hh.neGS i j hi hj))).lst (by have := (hzz.li i j hi hj).1; omega) (hzz.li i j hi hj).sz
   refine ⟨rfl, ?_, ⟨?_, ?_, ?_, by omega, fun b hbb => old b (by omega) (by have := lo.r; omega) (by have := lo.x; omega) (by have := lo.s; omega)⟩, fun b hb h1 h2 h3 _ => old b hb h3 h1 h2⟩
   ·refine hh.left lo ?_ ?_ hzz hi (by omega) (HX.out.same hXF) hrow (((HO.out.same hgF).lst (by omega) (plusF_sz hzz.rows.sz hl5))) (fun k j hk hj => ?_) (fun k j hk hne hj => old _ (hh.ls k j hk hj).row.lt (hh.neGR k j hk hj) (hh.neGX k j hk hj) (hh.neGS k j hk hj))
     (v1 := slc (G i 0) (W.ss[i].li 0).length (C i 0)) (v2 := slc (G i 1) (W.ss[i].li 1).length (C i 1)) (v3 := .slice none 0 0) (v4 := .slice none 0 0) ⟨?_, ?_, ?_, ?_, ?_, lk 0 (by omega) (by omega) (by omega), lk 1 (by omega) (by omega) (by omega), Lst.none_ _ _, Lst.none_ _ _⟩
    ·exact LoV.at (by have := lo.r; rcases hloc with h | h <;> omega)
    ·exact ⟨lo.v hi (by omega), lo.v hi (by omega), LoV.non _ _ _, LoV.non _ _ _⟩
    ·rw [cc, cell_off _ (by omega), cell_off _ (by omega), cell_off _ (by omega), cw]
    ·rw [cc, cell_off _ (by omega), cell_off _ (by omega)]; exact cell_put HB.out (by omega) _
    ·rw [cc, cell_off _ (by omega), cell_off _ (by omega), cell_off _ (by omega), cw]; exact hh.cs i 0 hi (by omega)
    ·rw [cc, cell_off _ (by omega), cell_off _ (by omega), cell_off _ (by omega), cw]; exact hh.cs i 1 hi (by omega)
    ·rw [cc, cell_off _ (by omega)]; exact cell_put (HB.out.hit _) (by omega) _
    ·rw [cc]; exact cell_put ((HB.out.hit _).hit _) (by omega) _
   ·rw [hF]; exact c3.os.trans k1
   ·rw [hF]; exact c3.tape.trans k2
   ·rw [hF]; exact c3.output.trans k3
end Go.Proofs.YtpbaobmegomfpabGreatDoor
namespace Go.Proofs.YtpbaobmegomfpabGreatDoor
open Go.RowKit
theorem begin_any (base X S gR cR : Nat) (G C : Nat → Nat → Nat) (W : Wd) (i : Nat) (w : World) (h : OwnD w X S gR cR G C W) (lo : LoD base X S gR G W.ss.length) (hz : SzW W) (hb : base ≤ w.heap.size) (hi : i < W.ss.length) (hst : W.ss[i].st ≠ 2) (key val : ByteArray) :
  Calls Tryz.prog 65 #[.pointer (some ⟨S, i * 5, none⟩)] w (ExPost w base X S gR G W.ss.length (did1 W i 1 key val)) := by
 have hd : did1 W i 1 key val = (if W.ss[i].st = 0 then (W.put i { W.ss[i] with st := 1, sav := W.ss[i].set }, ok') else (W, no' tBegun)) := by
  unfold did1
  simp only [getD_at hi]
  rw [if_neg (fun hh => hst hh.1)]
  simp
 rw [hd]
 by_cases h0 : W.ss[i].st = 0
 ·rw [if_pos h0]
  exact (begin_ok base X S gR cR G C W i w h lo hz hb hi h0).mono fun e w' hh => ExPost.done hh
 ·rw [if_neg h0]
  exact (begin_no w _ _ (h.st i hi) h0).mono fun e w' hh => ExPost.same h lo hz hb hh.1 hh.2
theorem reset_any (base X S gR cR : Nat) (G C : Nat → Nat → Nat) (W : Wd) (i : Nat) (w : World) (h : OwnD w X S gR cR G C W) (lo : LoD base X S gR G W.ss.length) (hz : SzW W) (hb : base ≤ w.heap.size) (hi : i < W.ss.length) (hst : W.ss[i].st ≠ 2) (key val : ByteArray) :
  Calls Tryz.prog 67 #[.pointer (some ⟨S, i * 5, none⟩)] w (ExPost w base X S gR G W.ss.length (did1 W i 4 key val)) := by
 have hd : did1 W i 4 key val = (if W.ss[i].st = 0 then (W.put i { W.ss[i] with set := [], prep := [] }, ok') else (W, no' tNotIn)) := by
  unfold did1
  simp only [getD_at hi]
  rw [if_neg (fun hh => hst hh.1)]
  simp
 rw [hd]
 by_cases h0 : W.ss[i].st = 0
 ·rw [if_pos h0]
  exact (reset_ok base X S gR cR G C W i w h lo hz hb hi h0).mono fun e w' hh => ExPost.done hh
 ·rw [if_neg h0]
  exact (reset_no w _ _ (h.st i hi) h0).mono fun e w' hh => ExPost.same h lo hz hb hh.1 hh.2
theorem end_any (base X S gR cR : Nat) (G C : Nat → Nat → Nat) (W : Wd) (i : Nat) (w : World) (h : OwnD w X S gR cR G C W) (lo : LoD base X S gR G W.ss.length) (hz : SzW W) (hr : risingB W.rows = true) (hb : base ≤ w.heap.size) (hi : i < W.ss.length) (k : Int) (hk : k = 2 ∨ k = 3) (key val : ByteArray) :
  Calls Tryz.prog 66 #[.pointer (some ⟨X, 0, none⟩), .pointer (some ⟨S, i * 5, none⟩), .int .i64 k] w (ExPost w base X S gR G W.ss.length (did1 W i k key val)) := by
 have hd : did1 W i k key val = (if W.ss[i].st = 0 then (W, no' tNoTx)
  else if k = 2 ∧ W.ss[i].st = 1 then (⟨plusF W.rows W.ss[i].wr, W.ss.set i { W.ss[i] with st := 0, sav := [], wr := [] }⟩, ok')
  else (W.put i { W.ss[i] with st := 0, set := W.ss[i].sav, sav := [], wr := [] }, ok')) := by
  unfold did1
  simp only [getD_at hi]
  rw [if_neg (fun hh => hh.2 hk), if_neg (by omega), if_pos hk]
 rw [hd]
 by_cases h0 : W.ss[i].st = 0
 ·rw [if_pos h0]
  have c0 := h.st i hi
  rw [h0] at c0
  exact (end_no w _ _ k c0).mono fun e w' hh => ExPost.same h lo hz hb hh.1 hh.2
 rw [if_neg h0]
 by_cases h1 : k = 2 ∧ W.ss[i].st = 1
 ·rw [if_pos h1]
  rw [h1.1]
  exact (end_commit base X S gR cR G C W i w h lo hz hr hb hi h1.2).mono fun e w' hh => ExPost.done hh
 ·rw [if_neg h1]
  exact (end_back base X S gR cR G C W i k w h lo hz hb hi h0 h1).mono fun e w' hh => ExPost.done hh
theorem keep_any (base X S gR cR : Nat) (G C : Nat → Nat → Nat) (W : Wd) (i j : Nat) (k : Int) (w : World) (h : OwnD w X S gR cR G C W) (lo : LoD base X S gR G W.ss.length) (hz : SzW W) (hb : base ≤ w.heap.size) (hi : i < W.ss.length) (hj : j < 4) (key val : ByteArray) (hkz : key.size ≤ 8) (hvz : val.size ≤ 60) (hr : risingB (W.ss[i].li j) = true) (s' : Sess)
  (hs : s'.st = W.ss[i].st) (hl : ∀ k, k < 4 → s'.li k = if k = j then insL (W.ss[i].li j) key val else W.ss[i].li k) :
  Calls Tryz.prog 70 #[.pointer (some ⟨S, i * 5 + (j + 1), none⟩), .agg #[.int .i64 k, .string key, .string val], .int .i64 6] w (ExPost w base X S gR G W.ss.length (if fndL (W.ss[i].li j) key = false ∧ 6 ≤ (W.ss[i].li j).length then (W, no' tFull) else (W.put i s', ok'))) := by
 have ho := h.ls i j hi hj
 have hn := (hz.li i j hi hj).1
 have hsz := (hz.li i j hi hj).sz
 have hp := h.cs i j hi hj
 have hpf := h.blk.frozen (i * 5 + (j + 1))
 have hne : S ≠ G i j := Ne.symm (h.neGS i j hi hj)
 by_cases h0 : fndL (W.ss[i].li j) key = false ∧ 6 ≤ (W.ss[i].li j).length
 ·rw [if_pos h0]
  exact (store_full (G i j) (C i j) S _ (W.ss[i].li j) k key val 6 w ho hr (by omega) hsz hp h0.1 h0.2).mono fun e w' hh => ExPost.same h lo hz hb hh.1 hh.2
 ·rw [if_neg h0]
  refine (store_ok (G i j) (C i j) S (i * 5 + (j + 1)) (W.ss[i].li j) k key val 6 w ho hr (by omega) hsz hp hpf hne (by omega) (by omega) ?_).mono ?_
  ·cases e : fndL (W.ss[i].li j) key
   ·right
    rcases Nat.lt_or_ge (W.ss[i].li j).length 6 with hh | hh
    ·exact hh
    ·exact absurd ⟨e, hh⟩ h0
   ·exact .inl rfl
  ·rintro e w' ⟨g', c', rfl, ho', hl', hc⟩
   refine ⟨rfl, h.stored lo (by have q1 := lo.g i j hi hj; rcases hl' with hh | hh <;> omega) hz hi hj (by have h1 := plusL_len (W.ss[i].li j) key val; rw [plus_ins hr] at h1; omega) (hsz.ins (by omega) (by omega)) ho' hc hs hl, hc.bel (lo.g i j hi hj) lo.s hb, fun b hb _ h2 _ h4 => hc.other b hb (h4 i j hi hj) h2⟩
set_option maxHeartbeats 2000000 in
theorem execute_begin (base X S gR cR : Nat) (G C : Nat → Nat → Nat) (W : Wd) (i : Nat) (key val : ByteArray) (w : World) (h : OwnD w X S gR cR G C W) (lo : LoD base X S gR G W.ss.length) (hw : WorldOk W) (hb : base ≤ w.heap.size) (hi : i < W.ss.length) (hkz : key.size ≤ 8) (hvz : val.size ≤ 60) (hst : W.ss[i].st ≠ 2) :
  Calls Tryz.prog 45 #[.pointer (some ⟨X, 0, none⟩), .int .i64 i, .agg #[.int .i64 1, .string key, .string val]] w (ExPost w base X S gR G W.ss.length (did1 W i 1 key val)) := by
 have hz := worldOk_sz hw
 have hXw := h.box.lt
 have hSw := h.blk.lt
 have x1 := h.box.cell (j := 1) (by simp)
 simp only [gCZ, gCS] at x1
 unfold slc at x1
 have c0 := h.st i hi
 have hii : (i : Int) < (W.ss.length : Int) := by omega
 have b0 : Below w.heap.size w ((w.alloc (.cells #[.int .i64 1, .string key, .string val] 41)).alloc (.cells #[.int .i64 0, .string ⟨#[]⟩, .int .i64 0] 46)) := ((Below.refl _ _).alloc (nL _) _).alloc (by simp) _
 have h0 := h.kept b0
 have X0 : RowTo ((w.alloc (.cells #[.int .i64 1, .string key, .string val] 41)).alloc (.cells #[.int .i64 0, .string ⟨#[]⟩, .int .i64 0] 46)) (w.heap.size + 1) 46 3 [.int .i64 0, .string ⟨#[]⟩, .int .i64 0] := by
  have := RowTo.whole (w.alloc (.cells #[.int .i64 1, .string key, .string val] 41)) #[.int .i64 0, .string ⟨#[]⟩, .int .i64 0] 46
  simpa using this
 have hzs : ((w.alloc (.cells #[.int .i64 1, .string key, .string val] 41)).alloc (.cells #[.int .i64 0, .string ⟨#[]⟩, .int .i64 0] 46)).heap.size = w.heap.size + 1 + 1 := by simp
 have hgr := h.rows.row.lt
 have hgg : ∀ i j, i < W.ss.length → j < 4 → w.heap.size + 1 ≠ G i j := fun i j hi hj => by have := (h.ls i j hi hj).row.lt; omega
 obtain ⟨r, hr⟩ : ∃ r, r = did1 W i 1 key val := ⟨_, rfl⟩
 rw [← hr]
 have hbs : base ≤ ((w.alloc (.cells #[.int .i64 1, .string key, .string val] 41)).alloc (.cells #[.int .i64 0, .string ⟨#[]⟩, .int .i64 0] 46)).heap.size := by omega
 have HC := hD (show Calls Tryz.prog 65 #[.pointer (some ⟨S, i * 5, none⟩)] ((w.alloc (.cells #[.int .i64 1, .string key, .string val] 41)).alloc (.cells #[.int .i64 0, .string ⟨#[]⟩, .int .i64 0] 46)) (ExPost ((w.alloc (.cells #[.int .i64 1, .string key, .string val] 41)).alloc (.cells #[.int .i64 0, .string ⟨#[]⟩, .int .i64 0] 46)) base X S gR G W.ss.length r) by
  rw [hr]
  exact begin_any base X S gR cR G C W i _ h0 lo hz hbs hi hst key val)
 have H := hD h
 have HZ := hD hz
 have HW := hD hw
 have B0 := hD b0
 have HX0 := hD X0
 have HZS := hD hzs
 have HG := hD hgg
 have HR := hD hr
 clear h hz hw b0 X0 hzs hgg hr h0 hbs
 have e2 : (W.ss[i].st == 2) = false := beq_eq_false_iff_ne.2 hst
 ·skip
  go_enter Tryz.func45, Tryz.ntmps45
  go_wp2_with fail
  refine HC.out.mono ?_
  rintro e wB hp
  obtain rfl := hp.1
  have RB := HX0.out.same (hp.2.2.2 (w.heap.size + 1) (by rw [HZS.out]; omega) (by omega) (by omega) (by omega) HG.out)
  have HP := hD hp
  have r0 := RB.cell (j := 0) (by simp)
  have r1 := RB.cell (j := 1) (by simp)
  have r2 := RB.cell (j := 2) (by simp)
  have s0 := RB.frozen 0
  have s1 := RB.frozen 1
  have s2 := RB.frozen 2
  simp only [gCZ, gCS] at r0 r1 r2
  have HRB := hD RB
  clear hp RB
  unfold ansV
  go_wp2
  refine bodyPost_ret (v := .agg #[.int .i64 r.2.kind, .string r.2.text, .int .i64 0]) (by simp [results, Tryz.results45, go_sem, r0, r1, r2]) rfl ?_
  exact HP.out.laid B0.out hb (by omega) HRB.out _ _ _
set_option maxHeartbeats 2000000 in
theorem execute_commit (base X S gR cR : Nat) (G C : Nat → Nat → Nat) (W : Wd) (i : Nat) (key val : ByteArray) (w : World) (h : OwnD w X S gR cR G C W) (lo : LoD base X S gR G W.ss.length) (hw : WorldOk W) (hb : base ≤ w.heap.size) (hi : i < W.ss.length) (hkz : key.size ≤ 8) (hvz : val.size ≤ 60) :
  Calls Tryz.prog 45 #[.pointer (some ⟨X, 0, none⟩), .int .i64 i, .agg #[.int .i64 2, .string key, .string val]] w (ExPost w base X S gR G W.ss.length (did1 W i 2 key val)) := by
 have hz := worldOk_sz hw
 have hXw := h.box.lt
 have hSw := h.blk.lt
 have x1 := h.box.cell (j := 1) (by simp)
 simp only [gCZ, gCS] at x1
 unfold slc at x1
 have c0 := h.st i hi
 have hii : (i : Int) < (W.ss.length : Int) := by omega
 have b0 : Below w.heap.size w ((w.alloc (.cells #[.int .i64 2, .string key, .string val] 41)).alloc (.cells #[.int .i64 0, .string ⟨#[]⟩, .int .i64 0] 46)) := ((Below.refl _ _).alloc (nL _) _).alloc (by simp) _
 have h0 := h.kept b0
 have X0 : RowTo ((w.alloc (.cells #[.int .i64 2, .string key, .string val] 41)).alloc (.cells #[.int .i64 0, .string ⟨#[]⟩, .int .i64 0] 46)) (w.heap.size + 1) 46 3 [.int .i64 0, .string ⟨#[]⟩, .int .i64 0] := by
  have := RowTo.whole (w.alloc (.cells #[.int .i64 2, .string key, .string val] 41)) #[.int .i64 0, .string ⟨#[]⟩, .int .i64 0] 46
  simpa using this
 have hzs : ((w.alloc (.cells #[.int .i64 2, .string key, .string val] 41)).alloc (.cells #[.int .i64 0, .string ⟨#[]⟩, .int .i64 0] 46)).heap.size = w.heap.size + 1 + 1 := by simp
 have hgr := h.rows.row.lt
 have hgg : ∀ i j, i < W.ss.length → j < 4 → w.heap.size + 1 ≠ G i j := fun i j hi hj => by have := (h.ls i j hi hj).row.lt; omega
 obtain ⟨r, hr⟩ : ∃ r, r = did1 W i 2 key val := ⟨_, rfl⟩
 rw [← hr]
 have hbs : base ≤ ((w.alloc (.cells #[.int .i64 2, .string key, .string val] 41)).alloc (.cells #[.int .i64 0, .string ⟨#[]⟩, .int .i64 0] 46)).heap.size := by omega
 have HC := hD (show Calls Tryz.prog 66 #[.pointer (some ⟨X, 0, none⟩), .pointer (some ⟨S, i * 5, none⟩), .int .i64 2] ((w.alloc (.cells #[.int .i64 2, .string key, .string val] 41)).alloc (.cells #[.int .i64 0, .string ⟨#[]⟩, .int .i64 0] 46)) (ExPost ((w.alloc (.cells #[.int .i64 2, .string key, .string val] 41)).alloc (.cells #[.int .i64 0, .string ⟨#[]⟩, .int .i64 0] 46)) base X S gR G W.ss.length r) by
  rw [hr]
  exact end_any base X S gR cR G C W i _ h0 lo hz (pairsB_rising hw.rows).1 hbs hi 2 (.inl rfl) key val)
 have H := hD h
 have HZ := hD hz
 have HW := hD hw
 have B0 := hD b0
 have HX0 := hD X0
 have HZS := hD hzs
 have HG := hD hgg
 have HR := hD hr
 clear h hz hw b0 X0 hzs hgg hr h0 hbs
 cases e2 : (W.ss[i].st == 2)
 all_goals
  go_enter Tryz.func45, Tryz.ntmps45
  go_wp2_with fail
  refine HC.out.mono ?_
  rintro e wB hp
  obtain rfl := hp.1
  have RB := HX0.out.same (hp.2.2.2 (w.heap.size + 1) (by rw [HZS.out]; omega) (by omega) (by omega) (by omega) HG.out)
  have HP := hD hp
  have r0 := RB.cell (j := 0) (by simp)
  have r1 := RB.cell (j := 1) (by simp)
  have r2 := RB.cell (j := 2) (by simp)
  have s0 := RB.frozen 0
  have s1 := RB.frozen 1
  have s2 := RB.frozen 2
  simp only [gCZ, gCS] at r0 r1 r2
  have HRB := hD RB
  clear hp RB
  unfold ansV
  go_wp2
  refine bodyPost_ret (v := .agg #[.int .i64 r.2.kind, .string r.2.text, .int .i64 0]) (by simp [results, Tryz.results45, go_sem, r0, r1, r2]) rfl ?_
  exact HP.out.laid B0.out hb (by omega) HRB.out _ _ _
set_option maxHeartbeats 2000000 in
theorem execute_rollback (base X S gR cR : Nat) (G C : Nat → Nat → Nat) (W : Wd) (i : Nat) (key val : ByteArray) (w : World) (h : OwnD w X S gR cR G C W) (lo : LoD base X S gR G W.ss.length) (hw : WorldOk W) (hb : base ≤ w.heap.size) (hi : i < W.ss.length) (hkz : key.size ≤ 8) (hvz : val.size ≤ 60) :
  Calls Tryz.prog 45 #[.pointer (some ⟨X, 0, none⟩), .int .i64 i, .agg #[.int .i64 3, .string key, .string val]] w (ExPost w base X S gR G W.ss.length (did1 W i 3 key val)) := by
 have hz := worldOk_sz hw
 have hXw := h.box.lt
 have hSw := h.blk.lt
 have x1 := h.box.cell (j := 1) (by simp)
 simp only [gCZ, gCS] at x1
 unfold slc at x1
 have c0 := h.st i hi
 have hii : (i : Int) < (W.ss.length : Int) := by omega
 have b0 : Below w.heap.size w ((w.alloc (.cells #[.int .i64 3, .string key, .string val] 41)).alloc (.cells #[.int .i64 0, .string ⟨#[]⟩, .int .i64 0] 46)) := ((Below.refl _ _).alloc (nL _) _).alloc (by simp) _
 have h0 := h.kept b0
 have X0 : RowTo ((w.alloc (.cells #[.int .i64 3, .string key, .string val] 41)).alloc (.cells #[.int .i64 0, .string ⟨#[]⟩, .int .i64 0] 46)) (w.heap.size + 1) 46 3 [.int .i64 0, .string ⟨#[]⟩, .int .i64 0] := by
  have := RowTo.whole (w.alloc (.cells #[.int .i64 3, .string key, .string val] 41)) #[.int .i64 0, .string ⟨#[]⟩, .int .i64 0] 46
  simpa using this
 have hzs : ((w.alloc (.cells #[.int .i64 3, .string key, .string val] 41)).alloc (.cells #[.int .i64 0, .string ⟨#[]⟩, .int .i64 0] 46)).heap.size = w.heap.size + 1 + 1 := by simp
 have hgr := h.rows.row.lt
 have hgg : ∀ i j, i < W.ss.length → j < 4 → w.heap.size + 1 ≠ G i j := fun i j hi hj => by have := (h.ls i j hi hj).row.lt; omega
 obtain ⟨r, hr⟩ : ∃ r, r = did1 W i 3 key val := ⟨_, rfl⟩
 rw [← hr]
 have hbs : base ≤ ((w.alloc (.cells #[.int .i64 3, .string key, .string val] 41)).alloc (.cells #[.int .i64 0, .string ⟨#[]⟩, .int .i64 0] 46)).heap.size := by omega
 have HC := hD (show Calls Tryz.prog 66 #[.pointer (some ⟨X, 0, none⟩), .pointer (some ⟨S, i * 5, none⟩), .int .i64 3] ((w.alloc (.cells #[.int .i64 3, .string key, .string val] 41)).alloc (.cells #[.int .i64 0, .string ⟨#[]⟩, .int .i64 0] 46)) (ExPost ((w.alloc (.cells #[.int .i64 3, .string key, .string val] 41)).alloc (.cells #[.int .i64 0, .string ⟨#[]⟩, .int .i64 0] 46)) base X S gR G W.ss.length r) by
  rw [hr]
  exact end_any base X S gR cR G C W i _ h0 lo hz (pairsB_rising hw.rows).1 hbs hi 3 (.inr rfl) key val)
 have H := hD h
 have HZ := hD hz
 have HW := hD hw
 have B0 := hD b0
 have HX0 := hD X0
 have HZS := hD hzs
 have HG := hD hgg
 have HR := hD hr
 clear h hz hw b0 X0 hzs hgg hr h0 hbs
 cases e2 : (W.ss[i].st == 2)
 all_goals
  go_enter Tryz.func45, Tryz.ntmps45
  go_wp2_with fail
  refine HC.out.mono ?_
  rintro e wB hp
  obtain rfl := hp.1
  have RB := HX0.out.same (hp.2.2.2 (w.heap.size + 1) (by rw [HZS.out]; omega) (by omega) (by omega) (by omega) HG.out)
  have HP := hD hp
  have r0 := RB.cell (j := 0) (by simp)
  have r1 := RB.cell (j := 1) (by simp)
  have r2 := RB.cell (j := 2) (by simp)
  have s0 := RB.frozen 0
  have s1 := RB.frozen 1
  have s2 := RB.frozen 2
  simp only [gCZ, gCS] at r0 r1 r2
  have HRB := hD RB
  clear hp RB
  unfold ansV
  go_wp2
  refine bodyPost_ret (v := .agg #[.int .i64 r.2.kind, .string r.2.text, .int .i64 0]) (by simp [results, Tryz.results45, go_sem, r0, r1, r2]) rfl ?_
  exact HP.out.laid B0.out hb (by omega) HRB.out _ _ _
set_option maxHeartbeats 2000000 in
theorem execute_reset (base X S gR cR : Nat) (G C : Nat → Nat → Nat) (W : Wd) (i : Nat) (key val : ByteArray) (w : World) (h : OwnD w X S gR cR G C W) (lo : LoD base X S gR G W.ss.length) (hw : WorldOk W) (hb : base ≤ w.heap.size) (hi : i < W.ss.length) (hkz : key.size ≤ 8) (hvz : val.size ≤ 60) (hst : W.ss[i].st ≠ 2) :
  Calls Tryz.prog 45 #[.pointer (some ⟨X, 0, none⟩), .int .i64 i, .agg #[.int .i64 4, .string key, .string val]] w (ExPost w base X S gR G W.ss.length (did1 W i 4 key val)) := by
 have hz := worldOk_sz hw
 have hXw := h.box.lt
 have hSw := h.blk.lt
 have x1 := h.box.cell (j := 1) (by simp)
 simp only [gCZ, gCS] at x1
 unfold slc at x1
 have c0 := h.st i hi
 have hii : (i : Int) < (W.ss.length : Int) := by omega
 have b0 : Below w.heap.size w ((w.alloc (.cells #[.int .i64 4, .string key, .string val] 41)).alloc (.cells #[.int .i64 0, .string ⟨#[]⟩, .int .i64 0] 46)) := ((Below.refl _ _).alloc (nL _) _).alloc (by simp) _
 have h0 := h.kept b0
 have X0 : RowTo ((w.alloc (.cells #[.int .i64 4, .string key, .string val] 41)).alloc (.cells #[.int .i64 0, .string ⟨#[]⟩, .int .i64 0] 46)) (w.heap.size + 1) 46 3 [.int .i64 0, .string ⟨#[]⟩, .int .i64 0] := by
  have := RowTo.whole (w.alloc (.cells #[.int .i64 4, .string key, .string val] 41)) #[.int .i64 0, .string ⟨#[]⟩, .int .i64 0] 46
  simpa using this
 have hzs : ((w.alloc (.cells #[.int .i64 4, .string key, .string val] 41)).alloc (.cells #[.int .i64 0, .string ⟨#[]⟩, .int .i64 0] 46)).heap.size = w.heap.size + 1 + 1 := by simp
 have hgr := h.rows.row.lt
 have hgg : ∀ i j, i < W.ss.length → j < 4 → w.heap.size + 1 ≠ G i j := fun i j hi hj => by have := (h.ls i j hi hj).row.lt; omega
 obtain ⟨r, hr⟩ : ∃ r, r = did1 W i 4 key val := ⟨_, rfl⟩
 rw [← hr]
 have hbs : base ≤ ((w.alloc (.cells #[.int .i64 4, .string key, .string val] 41)).alloc (.cells #[.int .i64 0, .string ⟨#[]⟩, .int .i64 0] 46)).heap.size := by omega
 have HC := hD (show Calls Tryz.prog 67 #[.pointer (some ⟨S, i * 5, none⟩)] ((w.alloc (.cells #[.int .i64 4, .string key, .string val] 41)).alloc (.cells #[.int .i64 0, .string ⟨#[]⟩, .int .i64 0] 46)) (ExPost ((w.alloc (.cells #[.int .i64 4, .string key, .string val] 41)).alloc (.cells #[.int .i64 0, .string ⟨#[]⟩, .int .i64 0] 46)) base X S gR G W.ss.length r) by
  rw [hr]
  exact reset_any base X S gR cR G C W i _ h0 lo hz hbs hi hst key val)
 have H := hD h
 have HZ := hD hz
 have HW := hD hw
 have B0 := hD b0
 have HX0 := hD X0
 have HZS := hD hzs
 have HG := hD hgg
 have HR := hD hr
 clear h hz hw b0 X0 hzs hgg hr h0 hbs
 have e2 : (W.ss[i].st == 2) = false := beq_eq_false_iff_ne.2 hst
 ·skip
  go_enter Tryz.func45, Tryz.ntmps45
  go_wp2_with fail
  refine HC.out.mono ?_
  rintro e wB hp
  obtain rfl := hp.1
  have RB := HX0.out.same (hp.2.2.2 (w.heap.size + 1) (by rw [HZS.out]; omega) (by omega) (by omega) (by omega) HG.out)
  have HP := hD hp
  have r0 := RB.cell (j := 0) (by simp)
  have r1 := RB.cell (j := 1) (by simp)
  have r2 := RB.cell (j := 2) (by simp)
  have s0 := RB.frozen 0
  have s1 := RB.frozen 1
  have s2 := RB.frozen 2
  simp only [gCZ, gCS] at r0 r1 r2
  have HRB := hD RB
  clear hp RB
  unfold ansV
  go_wp2
  refine bodyPost_ret (v := .agg #[.int .i64 r.2.kind, .string r.2.text, .int .i64 0]) (by simp [results, Tryz.results45, go_sem, r0, r1, r2]) rfl ?_
  exact HP.out.laid B0.out hb (by omega) HRB.out _ _ _
set_option maxHeartbeats 2000000 in
theorem execute_fail (base X S gR cR : Nat) (G C : Nat → Nat → Nat) (W : Wd) (i : Nat) (key val : ByteArray) (w : World) (h : OwnD w X S gR cR G C W) (lo : LoD base X S gR G W.ss.length) (hw : WorldOk W) (hb : base ≤ w.heap.size) (hi : i < W.ss.length) (hkz : key.size ≤ 8) (hvz : val.size ≤ 60) (hst : W.ss[i].st ≠ 2) :
  Calls Tryz.prog 45 #[.pointer (some ⟨X, 0, none⟩), .int .i64 i, .agg #[.int .i64 5, .string key, .string val]] w (ExPost w base X S gR G W.ss.length (did1 W i 5 key val)) := by
 have hz := worldOk_sz hw
 have hXw := h.box.lt
 have hSw := h.blk.lt
 have x1 := h.box.cell (j := 1) (by simp)
 simp only [gCZ, gCS] at x1
 unfold slc at x1
 have c0 := h.st i hi
 have hii : (i : Int) < (W.ss.length : Int) := by omega
 have b0 : Below w.heap.size w ((w.alloc (.cells #[.int .i64 5, .string key, .string val] 41)).alloc (.cells #[.int .i64 0, .string ⟨#[]⟩, .int .i64 0] 46)) := ((Below.refl _ _).alloc (nL _) _).alloc (by simp) _
 have h0 := h.kept b0
 have X0 : RowTo ((w.alloc (.cells #[.int .i64 5, .string key, .string val] 41)).alloc (.cells #[.int .i64 0, .string ⟨#[]⟩, .int .i64 0] 46)) (w.heap.size + 1) 46 3 [.int .i64 0, .string ⟨#[]⟩, .int .i64 0] := by
  have := RowTo.whole (w.alloc (.cells #[.int .i64 5, .string key, .string val] 41)) #[.int .i64 0, .string ⟨#[]⟩, .int .i64 0] 46
  simpa using this
 have hzs : ((w.alloc (.cells #[.int .i64 5, .string key, .string val] 41)).alloc (.cells #[.int .i64 0, .string ⟨#[]⟩, .int .i64 0] 46)).heap.size = w.heap.size + 1 + 1 := by simp
 have hgr := h.rows.row.lt
 have hgg : ∀ i j, i < W.ss.length → j < 4 → w.heap.size + 1 ≠ G i j := fun i j hi hj => by have := (h.ls i j hi hj).row.lt; omega
 obtain ⟨r, hr⟩ : ∃ r, r = did1 W i 5 key val := ⟨_, rfl⟩
 rw [← hr]
 have hbs : base ≤ ((w.alloc (.cells #[.int .i64 5, .string key, .string val] 41)).alloc (.cells #[.int .i64 0, .string ⟨#[]⟩, .int .i64 0] 46)).heap.size := by omega
 have HC := hD (show Calls Tryz.prog 64 #[.string tAsked] ((w.alloc (.cells #[.int .i64 5, .string key, .string val] 41)).alloc (.cells #[.int .i64 0, .string ⟨#[]⟩, .int .i64 0] 46)) (ExPost ((w.alloc (.cells #[.int .i64 5, .string key, .string val] 41)).alloc (.cells #[.int .i64 0, .string ⟨#[]⟩, .int .i64 0] 46)) base X S gR G W.ss.length r) by
  rw [hr]
  rw [show did1 W i 5 key val = (W, no' tAsked) by unfold did1; simp only [getD_at hi]; rw [if_neg (fun hh => hst hh.1)]; simp]
  exact (failure_any tAsked _).mono fun e w' hh => ExPost.same h0 lo hz hbs hh.1 hh.2)
 have H := hD h
 have HZ := hD hz
 have HW := hD hw
 have B0 := hD b0
 have HX0 := hD X0
 have HZS := hD hzs
 have HG := hD hgg
 have HR := hD hr
 clear h hz hw b0 X0 hzs hgg hr h0 hbs
 have e2 : (W.ss[i].st == 2) = false := beq_eq_false_iff_ne.2 hst
 ·skip
  go_enter Tryz.func45, Tryz.ntmps45
  go_wp2_with fail
  refine HC.out.mono ?_
  rintro e wB hp
  obtain rfl := hp.1
  have RB := HX0.out.same (hp.2.2.2 (w.heap.size + 1) (by rw [HZS.out]; omega) (by omega) (by omega) (by omega) HG.out)
  have HP := hD hp
  have r0 := RB.cell (j := 0) (by simp)
  have r1 := RB.cell (j := 1) (by simp)
  have r2 := RB.cell (j := 2) (by simp)
  have s0 := RB.frozen 0
  have s1 := RB.frozen 1
  have s2 := RB.frozen 2
  simp only [gCZ, gCS] at r0 r1 r2
  have HRB := hD RB
  clear hp RB
  unfold ansV
  go_wp2
  refine bodyPost_ret (v := .agg #[.int .i64 r.2.kind, .string r.2.text, .int .i64 0]) (by simp [results, Tryz.results45, go_sem, r0, r1, r2]) rfl ?_
  exact HP.out.laid B0.out hb (by omega) HRB.out _ _ _
set_option maxHeartbeats 2000000 in
theorem execute_put (base X S gR cR : Nat) (G C : Nat → Nat → Nat) (W : Wd) (i : Nat) (key val : ByteArray) (w : World) (h : OwnD w X S gR cR G C W) (lo : LoD base X S gR G W.ss.length) (hw : WorldOk W) (hb : base ≤ w.heap.size) (hi : i < W.ss.length) (hkz : key.size ≤ 8) (hvz : val.size ≤ 60) (hst : W.ss[i].st ≠ 2) :
  Calls Tryz.prog 45 #[.pointer (some ⟨X, 0, none⟩), .int .i64 i, .agg #[.int .i64 10, .string key, .string val]] w (ExPost w base X S gR G W.ss.length (did1 W i 10 key val)) := by
 have hz := worldOk_sz hw
 have hXw := h.box.lt
 have hSw := h.blk.lt
 have x1 := h.box.cell (j := 1) (by simp)
 simp only [gCZ, gCS] at x1
 unfold slc at x1
 have c0 := h.st i hi
 have hii : (i : Int) < (W.ss.length : Int) := by omega
 have b0 : Below w.heap.size w ((w.alloc (.cells #[.int .i64 10, .string key, .string val] 41)).alloc (.cells #[.int .i64 0, .string ⟨#[]⟩, .int .i64 0] 46)) := ((Below.refl _ _).alloc (nL _) _).alloc (by simp) _
 have h0 := h.kept b0
 have X0 : RowTo ((w.alloc (.cells #[.int .i64 10, .string key, .string val] 41)).alloc (.cells #[.int .i64 0, .string ⟨#[]⟩, .int .i64 0] 46)) (w.heap.size + 1) 46 3 [.int .i64 0, .string ⟨#[]⟩, .int .i64 0] := by
  have := RowTo.whole (w.alloc (.cells #[.int .i64 10, .string key, .string val] 41)) #[.int .i64 0, .string ⟨#[]⟩, .int .i64 0] 46
  simpa using this
 have hzs : ((w.alloc (.cells #[.int .i64 10, .string key, .string val] 41)).alloc (.cells #[.int .i64 0, .string ⟨#[]⟩, .int .i64 0] 46)).heap.size = w.heap.size + 1 + 1 := by simp
 have hgr := h.rows.row.lt
 have hgg : ∀ i j, i < W.ss.length → j < 4 → w.heap.size + 1 ≠ G i j := fun i j hi hj => by have := (h.ls i j hi hj).row.lt; omega
 obtain ⟨r, hr⟩ : ∃ r, r = did1 W i 10 key val := ⟨_, rfl⟩
 rw [← hr]
 have hbs : base ≤ ((w.alloc (.cells #[.int .i64 10, .string key, .string val] 41)).alloc (.cells #[.int .i64 0, .string ⟨#[]⟩, .int .i64 0] 46)).heap.size := by omega
 have HC := hD (show Calls Tryz.prog 71 #[.pointer (some ⟨X, 0, none⟩), .int .i64 i, .agg #[.int .i64 10, .string key, .string val]] ((w.alloc (.cells #[.int .i64 10, .string key, .string val] 41)).alloc (.cells #[.int .i64 0, .string ⟨#[]⟩, .int .i64 0] 46)) (ExPost ((w.alloc (.cells #[.int .i64 10, .string key, .string val] 41)).alloc (.cells #[.int .i64 0, .string ⟨#[]⟩, .int .i64 0] 46)) base X S gR G W.ss.length r) by
  rw [hr]
  exact put_any base X S gR cR G C W i key val _ h0 lo hw hbs hi hkz hvz hst)
 have H := hD h
 have HZ := hD hz
 have HW := hD hw
 have B0 := hD b0
 have HX0 := hD X0
 have HZS := hD hzs
 have HG := hD hgg
 have HR := hD hr
 clear h hz hw b0 X0 hzs hgg hr h0 hbs
 have e2 : (W.ss[i].st == 2) = false := beq_eq_false_iff_ne.2 hst
 ·skip
  go_enter Tryz.func45, Tryz.ntmps45
  go_wp2_with fail
  refine HC.out.mono ?_
  rintro e wB hp
  obtain rfl := hp.1
  have RB := HX0.out.same (hp.2.2.2 (w.heap.size + 1) (by rw [HZS.out]; omega) (by omega) (by omega) (by omega) HG.out)
  have HP := hD hp
  have r0 := RB.cell (j := 0) (by simp)
  have r1 := RB.cell (j := 1) (by simp)
  have r2 := RB.cell (j := 2) (by simp)
  have s0 := RB.frozen 0
  have s1 := RB.frozen 1
  have s2 := RB.frozen 2
  simp only [gCZ, gCS] at r0 r1 r2
  have HRB := hD RB
  clear hp RB
  unfold ansV
  go_wp2
  refine bodyPost_ret (v := .agg #[.int .i64 r.2.kind, .string r.2.text, .int .i64 0]) (by simp [results, Tryz.results45, go_sem, r0, r1, r2]) rfl ?_
  exact HP.out.laid B0.out hb (by omega) HRB.out _ _ _
set_option maxHeartbeats 2000000 in
theorem execute_failed (base X S gR cR : Nat) (G C : Nat → Nat → Nat) (W : Wd) (i : Nat) (k : Int) (key val : ByteArray) (w : World) (h : OwnD w X S gR cR G C W) (lo : LoD base X S gR G W.ss.length) (hw : WorldOk W) (hb : base ≤ w.heap.size) (hi : i < W.ss.length) (hkz : key.size ≤ 8) (hvz : val.size ≤ 60) (hst : W.ss[i].st = 2) (hk2 : ¬ (k = 2 ∨ k = 3)) :
  Calls Tryz.prog 45 #[.pointer (some ⟨X, 0, none⟩), .int .i64 i, .agg #[.int .i64 k, .string key, .string val]] w (ExPost w base X S gR G W.ss.length (did1 W i k key val)) := by
 have hz := worldOk_sz hw
 have hXw := h.box.lt
 have hSw := h.blk.lt
 have x1 := h.box.cell (j := 1) (by simp)
 simp only [gCZ, gCS] at x1
 unfold slc at x1
 have c0 := h.st i hi
 have hii : (i : Int) < (W.ss.length : Int) := by omega
 have b0 : Below w.heap.size w ((w.alloc (.cells #[.int .i64 k, .string key, .string val] 41)).alloc (.cells #[.int .i64 0, .string ⟨#[]⟩, .int .i64 0] 46)) := ((Below.refl _ _).alloc (nL _) _).alloc (by simp) _
 have h0 := h.kept b0
 have X0 : RowTo ((w.alloc (.cells #[.int .i64 k, .string key, .string val] 41)).alloc (.cells #[.int .i64 0, .string ⟨#[]⟩, .int .i64 0] 46)) (w.heap.size + 1) 46 3 [.int .i64 0, .string ⟨#[]⟩, .int .i64 0] := by
  have := RowTo.whole (w.alloc (.cells #[.int .i64 k, .string key, .string val] 41)) #[.int .i64 0, .string ⟨#[]⟩, .int .i64 0] 46
  simpa using this
 have hzs : ((w.alloc (.cells #[.int .i64 k, .string key, .string val] 41)).alloc (.cells #[.int .i64 0, .string ⟨#[]⟩, .int .i64 0] 46)).heap.size = w.heap.size + 1 + 1 := by simp
 have hgr := h.rows.row.lt
 have hgg : ∀ i j, i < W.ss.length → j < 4 → w.heap.size + 1 ≠ G i j := fun i j hi hj => by have := (h.ls i j hi hj).row.lt; omega
 obtain ⟨r, hr⟩ : ∃ r, r = did1 W i k key val := ⟨_, rfl⟩
 rw [← hr]
 have hbs : base ≤ ((w.alloc (.cells #[.int .i64 k, .string key, .string val] 41)).alloc (.cells #[.int .i64 0, .string ⟨#[]⟩, .int .i64 0] 46)).heap.size := by omega
 have HC := hD (show Calls Tryz.prog 64 #[.string tFailed] ((w.alloc (.cells #[.int .i64 k, .string key, .string val] 41)).alloc (.cells #[.int .i64 0, .string ⟨#[]⟩, .int .i64 0] 46)) (ExPost ((w.alloc (.cells #[.int .i64 k, .string key, .string val] 41)).alloc (.cells #[.int .i64 0, .string ⟨#[]⟩, .int .i64 0] 46)) base X S gR G W.ss.length r) by
  rw [hr]
  rw [show did1 W i k key val = (W, no' tFailed) by unfold did1; simp only [getD_at hi]; rw [if_pos ⟨hst, hk2⟩]]
  exact (failure_any tFailed _).mono fun e w' hh => ExPost.same h0 lo hz hbs hh.1 hh.2)
 have H := hD h
 have HZ := hD hz
 have HW := hD hw
 have B0 := hD b0
 have HX0 := hD X0
 have HZS := hD hzs
 have HG := hD hgg
 have HR := hD hr
 clear h hz hw b0 X0 hzs hgg hr h0 hbs
 have e2 : (W.ss[i].st == 2) = true := beq_iff_eq.2 hst
 have e3 : (k != 2) = true := bne_iff_ne.2 (fun e => hk2 (.inl e))
 have e4 : (k != 3) = true := bne_iff_ne.2 (fun e => hk2 (.inr e))
 clear hk2
 ·skip
  go_enter Tryz.func45, Tryz.ntmps45
  go_wp2_with fail
  refine HC.out.mono ?_
  rintro e wB hp
  obtain rfl := hp.1
  have RB := HX0.out.same (hp.2.2.2 (w.heap.size + 1) (by rw [HZS.out]; omega) (by omega) (by omega) (by omega) HG.out)
  have HP := hD hp
  have r0 := RB.cell (j := 0) (by simp)
  have r1 := RB.cell (j := 1) (by simp)
  have r2 := RB.cell (j := 2) (by simp)
  have s0 := RB.frozen 0
  have s1 := RB.frozen 1
  have s2 := RB.frozen 2
  simp only [gCZ, gCS] at r0 r1 r2
  have HRB := hD RB
  clear hp RB
  unfold ansV
  go_wp2
  refine bodyPost_ret (v := .agg #[.int .i64 r.2.kind, .string r.2.text, .int .i64 0]) (by simp [results, Tryz.results45, go_sem, r0, r1, r2]) rfl ?_
  exact HP.out.laid B0.out hb (by omega) HRB.out _ _ _
end Go.Proofs.YtpbaobmegomfpabGreatDoor
