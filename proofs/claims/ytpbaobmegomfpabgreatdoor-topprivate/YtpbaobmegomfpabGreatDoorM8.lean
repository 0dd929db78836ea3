/-
  Texts of the proof, one behind the other: BPutF, BEnd, BEnd2.
-/
import Derived.Test.YtpbaobmegomfpabGreatDoorM6
import Derived.Test.YtpbaobmegomfpabGreatDoorM7
import Derived.Test.YtpbaobmegomfpabGreatDoorM5
import Derived.Deep.RegionWith
set_option linter.unusedVariables false
set_option linter.unusedSimpArgs false
set_option maxRecDepth 100000
open List renaming getElem_toArray → gTA, getElem_cons_zero → gCZ, getElem_cons_succ → gCS, setIfInBounds_toArray → sTA, set_cons_zero → sCZ, set_cons_succ → sCS
open Go.Lib renaming hid → jD
open Nat renaming le_refl → nL
namespace Go.Proofs.YtpbaobmegomfpabGreatDoor
open Go.RowKit Go.Maps Go.WideMaps
def ExPost (w : World) (base X S gR : Nat) (G : Nat → Nat → Nat) (n : Nat) (r : Wd × Ans) (e : Ending) (w' : World) : Prop := e = .returned (ansV r.2.kind r.2.text) ∧ EndW w' base X S r.1 ∧ Below base w w' ∧ Rest w w' X S gR G n
theorem OwnD.ends {w : World} {base X S gR cR : Nat} {G C : Nat → Nat → Nat} {W : Wd} (h : OwnD w X S gR cR G C W) (lo : LoD base X S gR G W.ss.length) (hz : SzW W) : EndW w base X S W :=
 ⟨⟨_, h.box, h.wld hz, LoV.slc lo.r⟩, h.blk, lo.x, lo.s, fun k j v hk hj hv => by rw [h.cs k j hk hj] at hv; injection hv with hv; rw [← hv]; exact lo.v hk hj⟩
theorem ExPost.same {w w' : World} {base X S gR cR : Nat} {G C : Nat → Nat → Nat} {W : Wd} {k : Int} {t : ByteArray} (h : OwnD w X S gR cR G C W) (lo : LoD base X S gR G W.ss.length) (hz : SzW W) (hb : base ≤ w.heap.size) {e : Ending} (he : e = .returned (ansV k t)) (b : Below w.heap.size w w') {n : Nat} : ExPost w base X S gR G n (W, ⟨k, t⟩) e w' :=
 ⟨he, (h.kept b).ends lo hz, b.mono hb, fun c hc _ _ _ _ => b.block c hc⟩
theorem ExPost.done {w w' : World} {base X S gR n : Nat} {G : Nat → Nat → Nat} {W : Wd} {e : Ending} (h : DonePost w base X S gR G n W e w') : ExPost w base X S gR G n (W, ok') e w' := h
theorem RowTo.out_ {w : World} {g t n : Nat} {xs : List Value} (h : RowTo w g t n xs) {j : Nat} (hj : n ≤ j) : w.cell? ⟨g, j, none⟩ = none := by
 obtain ⟨cur, hh, hs, hx⟩ := h
 unfold World.cell?
 simp only [hh]
 show cur[j]? = _
 exact Array.getElem?_eq_none (by omega)
theorem RowTo.type {w : World} {g t n t' n' : Nat} {xs ys : List Value} (h : RowTo w g t n xs) (k : RowTo w g t' n' ys) : t = t' := by
 obtain ⟨cur, hh, _⟩ := h
 obtain ⟨cur', hk, _⟩ := k
 rw [hh] at hk
 injection hk with hk
 injection hk
theorem Lst.off {w w' : World} {B R : Nat} {v : Value} {l : PL} {x y : Int} {s : ByteArray} (hR : RowTo w R 46 3 [.int .i64 x, .string s, .int .i64 y]) (h : Lst w B v l) (hk : ∀ b, b ≠ R → w'.heap[b]? = w.heap[b]?) : Lst w' B v l := by
 refine ⟨h.form, h.bytes, h.sizes, fun hn => ?_, h.nil⟩
 obtain ⟨b, off, c, e, hb, hc⟩ := h.cells hn
 have hne : b ≠ R := by
  rintro rfl
  obtain ⟨h1, h2⟩ := hc 0 hn
  rw [Nat.zero_mul, Nat.add_zero] at h1 h2
  have r0 := hR.cell (j := 0) (by simp)
  have r2 := hR.cell (j := 2) (by simp)
  simp only [gCZ, gCS] at r0 r2
  rcases Nat.lt_or_ge off 3 with ho | ho
  ·obtain rfl | rfl | rfl : off = 0 ∨ off = 1 ∨ off = 2 := by omega
   ·rw [r0] at h1; cases h1
   ·rw [r2] at h2; cases h2
   ·rw [r2] at h1; cases h1
  ·rw [hR.out_ ho] at h1; cases h1
 exact ⟨b, off, c, e, hb, fun i hi => ⟨(World.cell?_of_block (hk b hne)).trans (hc i hi).1, (World.cell?_of_block (hk b hne)).trans (hc i hi).2⟩⟩
theorem EndW.off {w w' : World} {base X S R : Nat} {W : Wd} {x y : Int} {s : ByteArray} (h : EndW w base X S W) (hR : RowTo w R 46 3 [.int .i64 x, .string s, .int .i64 y]) (hs : w'.heap.size = w.heap.size) (hk : ∀ b, b ≠ R → w'.heap[b]? = w.heap[b]?) : EndW w' base X S W := by
 obtain ⟨r, hbox, ⟨hr, hss⟩, hlr⟩ := h.box
 have hX : X ≠ R := by rintro rfl; exact absurd (hbox.type hR) (by decide)
 have hS : S ≠ R := by intro e; have k := h.blk; rw [e] at k; exact absurd (k.type hR) (by decide)
 refine ⟨⟨r, hbox.same (hk X hX), ⟨?_, ?_⟩, hlr⟩, h.blk.same (hk S hS), h.loX, h.loS, fun k j v hk' hj hv => h.los k j v hk' hj ((World.cell?_of_block (hk S hS)).symm.trans hv)⟩
 ·rw [hs]; exact hr.off hR hk
 ·rw [hs]
  refine ⟨hss.form, hss.bytes, fun hn => ?_⟩
  obtain ⟨b, off, c, e, hb, hc⟩ := hss.cells hn
  refine ⟨b, off, c, e, hb, fun i hi => ?_⟩
  obtain ⟨v1, v2, v3, v4, q⟩ := hc i hi
  have hbS : b = S := by unfold slc at e; injection e with e; injection e with e; injection e with e; exact e.symm
  have cs : ∀ j, w'.cell? ⟨b, j, none⟩ = w.cell? ⟨b, j, none⟩ := fun j => World.cell?_of_block (hk b (by rw [hbS]; exact hS))
  exact ⟨v1, v2, v3, v4, (cs _).trans q.c0, (cs _).trans q.c1, (cs _).trans q.c2, (cs _).trans q.c3, (cs _).trans q.c4, q.l1.off hR hk, q.l2.off hR hk, q.l3.off hR hk, q.l4.off hR hk⟩
theorem ExPost.laid {w w0 wB : World} {base X S gR n R : Nat} {G : Nat → Nat → Nat} {r : Wd × Ans} {e : Ending} {x y : Int} {s : ByteArray} (h : ExPost w0 base X S gR G n r e wB) (b : Below w.heap.size w w0) (hb : base ≤ w.heap.size) (hw : w.heap.size ≤ R)
  (hR : RowTo wB R 46 3 [.int .i64 x, .string s, .int .i64 y]) (p1 p2 p3 : Value) :
  ExPost w base X S gR G n r (.returned (ansV r.2.kind r.2.text)) (((wB.setCell ⟨R, 0, none⟩ p1).setCell ⟨R, 1, none⟩ p2).setCell ⟨R, 2, none⟩ p3) := by
 obtain ⟨_, h2, h3, h4⟩ := h
 have hk : ∀ c, c ≠ R → (((wB.setCell ⟨R, 0, none⟩ p1).setCell ⟨R, 1, none⟩ p2).setCell ⟨R, 2, none⟩ p3).heap[c]? = wB.heap[c]? := fun c hc => by
  rw [Below.heap_setCell _ _ _ _ hc, Below.heap_setCell _ _ _ _ hc, Below.heap_setCell _ _ _ _ hc]
 have hsz : (((wB.setCell ⟨R, 0, none⟩ p1).setCell ⟨R, 1, none⟩ p2).setCell ⟨R, 2, none⟩ p3).heap.size = wB.heap.size := by simp [World.setCell]
 refine ⟨rfl, h2.off hR hsz hk, ?_, fun c hc a1 a2 a3 a4 => ?_⟩
 ·exact ((((b.mono hb).trans h3).setCell (by show base ≤ R; omega) _).setCell (by show base ≤ R; omega) _).setCell (by show base ≤ R; omega) _
 ·rw [hk c (by omega), h4 c (by have := b.size; omega) a1 a2 a3 a4]
  exact b.block c hc
theorem cnt_fnd : ∀ {l : PL} {key : ByteArray}, 1 ≤ cntL l key → fndL l key = true
 | [], _, h => by simp [cntL] at h
 | p :: l, key, h => by
  rw [cntL_cons] at h
  have ih := cnt_fnd (l := l) (key := key)
  unfold fndL at ih ⊢
  cases e : eqB p.1 key
  ·rw [e] at h
   simp only [atL, e]
   exact ih (by simpa using h)
  ·simp only [atL, e]
   rfl
theorem put_any (base X S gR cR : Nat) (G C : Nat → Nat → Nat) (W : Wd) (i : Nat) (key val : ByteArray) (w : World) (h : OwnD w X S gR cR G C W) (lo : LoD base X S gR G W.ss.length) (hw : WorldOk W) (hb : base ≤ w.heap.size) (hi : i < W.ss.length) (hkz : key.size ≤ 8) (hvz : val.size ≤ 60) (hst : W.ss[i].st ≠ 2) :
  Calls Tryz.prog 71 #[.pointer (some ⟨X, 0, none⟩), .int .i64 i, .agg #[.int .i64 10, .string key, .string val]] w (ExPost w base X S gR G W.ss.length (did1 W i 10 key val)) := by
 have hz := worldOk_sz hw
 have hrw := (pairsB_rising (hw.sess i hi).wr).1
 have hrr := (pairsB_rising hw.rows).1
 have hd : did1 W i 10 key val = (if heldB W.ss i key = true then (W, no' tHeld)
  else if fndL (allL W) key = false ∧ 100 ≤ (allL W).length then (W, no' tFull)
  else if W.ss[i].st = 1 then (W.put i { W.ss[i] with wr := insL W.ss[i].wr key val }, ok')
  else (⟨insL W.rows key val, W.ss⟩, ok')) := by
  unfold did1
  simp only [getD_at hi, plus_ins hrw, plus_ins hrr]
  rw [if_neg (fun hh => hst hh.1)]
  simp
 rw [hd]
 have hcn := held_cnt hw hi key
 by_cases h1 : heldB W.ss i key = true
 ·rw [if_pos h1]
  exact (put_held base X S gR cR G C W i key val w h lo hw hb hi hkz hvz h1).mono fun e w' hh => ExPost.same h lo hz hb hh.1 hh.2
 rw [if_neg h1]
 rw [Bool.not_eq_true] at h1
 rw [h1] at hcn
 cases ho : fndL W.ss[i].wr key
 ·have hc0 : cntL (W.ss.flatMap (·.wr)) key = 0 := by
   rw [ho] at hcn
   simp at hcn
   exact hcn
  by_cases h2 : fndL (allL W) key = false ∧ 100 ≤ (allL W).length
  ·rw [if_pos h2]
   exact (put_full_none base X S gR cR G C W i key val w h lo hw hb hi hkz hvz ho hc0 h2.1 h2.2).mono fun e w' hh => ExPost.same h lo hz hb hh.1 hh.2
  rw [if_neg h2]
  cases hf : fndL (allL W) key
  ·have hfl : (allL W).length < 100 := by
    rcases Nat.lt_or_ge (allL W).length 100 with hh | hh
    ·exact hh
    ·exact absurd ⟨hf, hh⟩ h2
   by_cases h3 : W.ss[i].st = 1
   ·rw [if_pos h3]
    exact (put_wr_new base X S gR cR G C W i key val w h lo hw hb hi hkz hvz ho hc0 hf hfl h3).mono fun e w' hh => ExPost.done hh
   ·rw [if_neg h3]
    exact (put_row_new base X S gR cR G C W i key val w h lo hw hb hi hkz hvz ho hc0 hf hfl h3).mono fun e w' hh => ExPost.done hh
  ·by_cases h3 : W.ss[i].st = 1
   ·rw [if_pos h3]
    exact (put_wr_is base X S gR cR G C W i key val w h lo hw hb hi hkz hvz ho hc0 hf h3).mono fun e w' hh => ExPost.done hh
   ·rw [if_neg h3]
    exact (put_row_is base X S gR cR G C W i key val w h lo hw hb hi hkz hvz ho hc0 hf h3).mono fun e w' hh => ExPost.done hh
 ·have hf : fndL (allL W) key = true := by
   cases hf : fndL (allL W) key
   ·exfalso
    have h5 := allF_fnd (R := W.rows) (k := key) hrr (W.ss.flatMap (·.wr))
    rw [show allF W.rows (W.ss.flatMap (·.wr)) = allL W from rfl, hf] at h5
    have h6 : 1 ≤ cntL (W.ss.flatMap (·.wr)) key := Nat.le_trans ((some_cnt hrw).2 ho) (cnt_one hi)
    have h7 : fndL (W.ss.flatMap (·.wr)) key = true := cnt_fnd h6
    rw [h7] at h5
    simp at h5
   ·rfl
  rw [if_neg (fun hh => by rw [hf] at hh; cases hh.1)]
  by_cases h3 : W.ss[i].st = 1
  ·rw [if_pos h3]
   exact (put_wr_own base X S gR cR G C W i key val w h lo hw hb hi hkz hvz ho hf h3).mono fun e w' hh => ExPost.done hh
  ·exfalso
   have h8 := (hw.sess i hi).tx h3
   rw [h8] at ho
   cases ho
end Go.Proofs.YtpbaobmegomfpabGreatDoor
namespace Go.Proofs.YtpbaobmegomfpabGreatDoor
open Go.RowKit
set_option maxHeartbeats 1000000 in
theorem end_no (w : World) (p q : Addr) (k : Int) (hc : w.cell? p = some (.int .i64 0)) :
  Calls Tryz.prog 66 #[.pointer (some q), .pointer (some p), .int .i64 k] w fun e w' => e = .returned (ansV 4 tNoTx) ∧ Below w.heap.size w w' := by
 have hp := World.block_lt_of_cell? w _ hc
 go_enter Tryz.func66, Tryz.ntmps66
 go_wp2_with fail
 refine (failure_any tNoTx _).mono ?_
 rintro e w9 ⟨rfl, hb9⟩
 have X9 := (RowTo.whole w #[.int .i64 0, .string ⟨#[]⟩, .int .i64 0] 46).below hb9 (by simp)
 have r0 := X9.cell (j := 0) (by simp)
 have r1 := X9.cell (j := 1) (by simp)
 have r2 := X9.cell (j := 2) (by simp)
 have s0 := X9.frozen 0
 have s1 := X9.frozen 1
 have s2 := X9.frozen 2
 simp only [gCZ, gCS] at r0 r1 r2
 have B9 := jD (bel_add' ((Below.refl w.heap.size w).alloc (nL _) _) hb9 (by simp))
 clear X9 hb9
 unfold ansV
 go_wp2
 refine bodyPost_ret (v := .agg #[.int .i64 4, .string tNoTx, .int .i64 0]) (by simp [results, Tryz.results66, go_sem, r0, r1, r2]) rfl ⟨rfl, ?_⟩
 exact ((B9.out.setCell (by simp) _).setCell (by simp) _).setCell (by simp) _
set_option maxHeartbeats 2000000 in
theorem end_back (base X S gR cR : Nat) (G C : Nat → Nat → Nat) (W : Wd) (i : Nat) (k : Int) (w : World) (h : OwnD w X S gR cR G C W) (lo : LoD base X S gR G W.ss.length) (hz : SzW W) (hb : base ≤ w.heap.size) (hi : i < W.ss.length) (hst : W.ss[i].st ≠ 0) (hk : ¬ (k = 2 ∧ W.ss[i].st = 1)) :
  Calls Tryz.prog 66 #[.pointer (some ⟨X, 0, none⟩), .pointer (some ⟨S, i * 5, none⟩), .int .i64 k] w (DonePost w base X S gR G W.ss.length (W.put i { W.ss[i] with st := 0, set := W.ss[i].sav, sav := [], wr := [] })) := by
 have c0 := h.st i hi
 have c3 : w.cell? ⟨S, i * 5 + 3, none⟩ = some (.slice (some ⟨G i 2, 0, none⟩) W.ss[i].sav.length (C i 2)) := h.cs i 2 hi (by omega)
 have hSw := h.blk.lt
 have f0 := h.blk.frozen (i * 5)
 have f1 := h.blk.frozen (i * 5 + 1)
 have f3 := h.blk.frozen (i * 5 + 3)
 have f4 := h.blk.frozen (i * 5 + 4)
 obtain ⟨u1, d1⟩ := h.blk.any (j := i * 5 + 1) (by omega)
 obtain ⟨u4, d4⟩ := h.blk.any (j := i * 5 + 4) (by omega)
 have e0 : (W.ss[i].st == 0) = false := beq_eq_false_iff_ne.2 hst
 have hcase : (k == 2) = false ∨ ((k == 2) = true ∧ (W.ss[i].st == 1) = false) := by
  by_cases h2 : k = 2
  ·exact .inr ⟨beq_iff_eq.2 h2, beq_eq_false_iff_ne.2 (fun h1 => hk ⟨h2, h1⟩)⟩
  ·exact .inl (beq_eq_false_iff_ne.2 h2)
 have H := jD h
 have HZ := jD hz
 clear h hst hk
 rcases hcase with hk | ⟨hk, hk1⟩
 all_goals
  go_enter Tryz.func66, Tryz.ntmps66
  go_wp2_with fail
  have ch1 := (((((Chs.refl w S).setS (j := i * 5 + 1) (.slice (some ⟨G i 2, 0, none⟩) W.ss[i].sav.length (C i 2))).setS (j := i * 5) (.int .i64 0)).setS (j := i * 5 + 3) (.slice none 0 0)).setS (j := i * 5 + 4) (.slice none 0 0)).alloc hSw (.cells #[.int .i64 0, .string ⟨#[]⟩, .int .i64 0] 46)
  have X0 : RowTo (((((w.setCell ⟨S, i * 5 + 1, none⟩ (.slice (some ⟨G i 2, 0, none⟩) W.ss[i].sav.length (C i 2))).setCell ⟨S, i * 5, none⟩ (.int .i64 0)).setCell ⟨S, i * 5 + 3, none⟩ (.slice none 0 0)).setCell ⟨S, i * 5 + 4, none⟩ (.slice none 0 0)).alloc (.cells #[.int .i64 0, .string ⟨#[]⟩, .int .i64 0] 46)) w.heap.size 46 3 [.int .i64 0, .string ⟨#[]⟩, .int .i64 0] := by
   have := RowTo.whole ((((w.setCell ⟨S, i * 5 + 1, none⟩ (.slice (some ⟨G i 2, 0, none⟩) W.ss[i].sav.length (C i 2))).setCell ⟨S, i * 5, none⟩ (.int .i64 0)).setCell ⟨S, i * 5 + 3, none⟩ (.slice none 0 0)).setCell ⟨S, i * 5 + 4, none⟩ (.slice none 0 0)) #[.int .i64 0, .string ⟨#[]⟩, .int .i64 0] 46
   simpa [World.setCell] using this
  refine (done_any _).mono ?_
  rintro e w3 ⟨rfl, hy3⟩
  have ch3 := ch1.below hy3 ch1.size hSw
  have X3 := X0.below hy3 X0.lt
  have r0 := X3.cell (j := 0) (by simp)
  have r1 := X3.cell (j := 1) (by simp)
  have r2 := X3.cell (j := 2) (by simp)
  have s0 := X3.frozen 0
  have s1 := X3.frozen 1
  have s2 := X3.frozen 2
  simp only [gCZ, gCS] at r0 r1 r2
  have HC3 := jD ch3
  clear ch1 ch3 X0 X3 hy3
  unfold ansV
  go_wp2
  refine bodyPost_ret (v := .agg #[.int .i64 1, .string ⟨#[]⟩, .int .i64 0]) (by simp [results, Tryz.results66, go_sem, r0, r1, r2]) rfl ?_
  have ch := ((HC3.out.setN (p := ⟨w.heap.size, 0, none⟩) (nL _) hSw (.int .i64 1)).setN (p := ⟨w.heap.size, 1, none⟩) (nL _) hSw (.string ⟨#[]⟩)).setN (p := ⟨w.heap.size, 2, none⟩) (nL _) hSw (.int .i64 0)
  refine ⟨rfl, ?_, ch.bel lo.s hb, fun b hb _ h2 _ _ => ch.other b hb h2⟩
  have hh := H.out
  have hzz := HZ.out
  have hrow := (((hh.blk.hit (j := i * 5 + 1) (.slice (some ⟨G i 2, 0, none⟩) W.ss[i].sav.length (C i 2))).hit (j := i * 5) (.int .i64 0)).hit (j := i * 5 + 3) (.slice none 0 0)).hit (j := i * 5 + 4) (.slice none 0 0)
  refine hh.turned lo ?_ (v3 := .slice none 0 0) (v4 := .slice none 0 0) hzz hi ch hrow (fun k j hk hj => ?_) ?_ ?_ ?_ ?_ ?_ (hh.li_kept hzz hi (j := 2) (by omega) ch) (hh.li_kept hzz hi (j := 1) (by omega) ch) (Lst.none_ _ _) (Lst.none_ _ _)
  ·exact ⟨lo.v hi (by omega), lo.v hi (by omega), LoV.non _ _ _, LoV.non _ _ _⟩
  ·rw [cell_off _ (by omega), cell_off _ (by omega), cell_off _ (by omega), cell_off _ (by omega)]
  ·rw [cell_off _ (by omega), cell_off _ (by omega)]; exact cell_put (hh.blk.hit _) (by omega) _
  ·rw [cell_off _ (by omega), cell_off _ (by omega), cell_off _ (by omega)]; exact cell_put hh.blk (by omega) _
  ·rw [cell_off _ (by omega), cell_off _ (by omega), cell_off _ (by omega), cell_off _ (by omega)]; exact hh.cs i 1 hi (by omega)
  ·rw [cell_off _ (by omega)]; exact cell_put ((hh.blk.hit _).hit _) (by omega) _
  ·exact cell_put (((hh.blk.hit _).hit _).hit _) (by omega) _
end Go.Proofs.YtpbaobmegomfpabGreatDoor
namespace Go.Proofs.YtpbaobmegomfpabGreatDoor
open Go.RowKit
theorem plusF_step {rows l : PL} {k : Nat} (hk : k < l.length) : plusF rows (l.take (k + 1)) = plusL (plusF rows (l.take k)) l[k].1 l[k].2 := by
 unfold plusF
 rw [List.take_succ_eq_append_getElem hk, List.foldl_append]; rfl
theorem plusF_rising {rows : PL} (h : risingB rows = true) : ∀ l : PL, risingB (plusF rows l) = true := by
 intro l
 unfold plusF
 induction l generalizing rows with
 | nil => exact h
 | cons p l ih => rw [List.foldl_cons]; exact ih (by rw [plus_ins h]; exact ins_rising h)
theorem plusF_len (rows : PL) : ∀ l : PL, (plusF rows l).length ≤ rows.length + l.length := by
 intro l
 unfold plusF
 induction l generalizing rows with
 | nil => simp
 | cons p l ih =>
  rw [List.foldl_cons]
  have h1 := ih (plusL rows p.1 p.2)
  have h2 := plusL_len rows p.1 p.2
  simp only [List.length_cons]; omega
theorem plusF_sz {rows : PL} (h : Sz rows) : ∀ {l : PL}, Sz l → Sz (plusF rows l) := by
 intro l
 unfold plusF
 induction l generalizing rows with
 | nil => intro _; exact h
 | cons p l ih =>
  intro hl
  rw [List.foldl_cons]
  refine ih (fun q hq => ?_) (fun q hq => hl q (by simp [hq]))
  rcases plusL_mem hq with rfl | hq
  ·exact hl p (by simp)
  ·exact h q hq
def ComRel (w : World) (X S gR : Nat) (W : Wd) (l : PL) (k : Nat) (wr : World) : Prop :=
 ∃ g c, OwnL wr g c (plusF W.rows (l.take k)) ∧ (g = gR ∨ w.heap.size + 1 ≤ g) ∧ RowTo wr w.heap.size 46 3 [.int .i64 0, .string ⟨#[]⟩, .int .i64 0] ∧
  RowTo wr X 39 2 [slc g (plusF W.rows (l.take k)).length c, slc S W.ss.length W.ss.length] ∧ w.heap.size + 1 ≤ wr.heap.size ∧ wr.os = w.os ∧ wr.tape = w.tape ∧ wr.output = w.output ∧ ∀ b, b < w.heap.size → b ≠ gR → b ≠ X → wr.heap[b]? = w.heap[b]?
set_option maxHeartbeats 4000000 in
theorem end_commit (base X S gR cR : Nat) (G C : Nat → Nat → Nat) (W : Wd) (i : Nat) (w : World) (h : OwnD w X S gR cR G C W) (lo : LoD base X S gR G W.ss.length) (hz : SzW W) (hr : risingB W.rows = true) (hb : base ≤ w.heap.size) (hi : i < W.ss.length) (hst : W.ss[i].st = 1) :
  Calls Tryz.prog 66 #[.pointer (some ⟨X, 0, none⟩), .pointer (some ⟨S, i * 5, none⟩), .int .i64 2] w (DonePost w base X S gR G W.ss.length ⟨plusF W.rows W.ss[i].wr, W.ss.set i { W.ss[i] with st := 0, sav := [], wr := [] }⟩) := by
 have c0 := h.st i hi
 rw [hst] at c0
 have c4 : w.cell? ⟨S, i * 5 + 4, none⟩ = some (.slice (some ⟨G i 3, 0, none⟩) W.ss[i].wr.length (C i 3)) := h.cs i 3 hi (by omega)
 have hSw := h.blk.lt
 have hXw := h.box.lt
 have hRw := h.rows.row.lt
 have hGw := (h.ls i 3 hi (by omega)).row.lt
 have n1 := h.neXS
 have n2 := h.neRX
 have n3 := h.neRS
 have n4 := h.neGX i 3 hi (by omega)
 have n5 := h.neGR i 3 hi (by omega)
 have h100 : W.ss[i].wr.length ≤ 100 := (hz.li i 3 hi (by omega)).1
 have hr100 := hz.rows.1
 have HL := jD (show OwnL w (G i 3) (C i 3) W.ss[i].wr from h.ls i 3 hi (by omega))
 have HLz := jD (show Sz W.ss[i].wr from (hz.li i 3 hi (by omega)).sz)
 have H := jD h
 have HZ := jD hz
 have HR := jD hr
 clear h hst hr
 have HW := jD (rfl : W.ss[i].wr = W.ss[i].wr)
 generalize hl : W.ss[i].wr = l at *
 have HWR := jD hl
 clear hl HW
 go_enter Tryz.func66, Tryz.ntmps66
 go_wp2
 go_loopw [29] (fun j wr => ∃ k : Nat, k ≤ l.length ∧ j = .int .i64 k ∧ ComRel w X S gR W l k wr) (fun j _ => l.length - (intOf j).toNat)
 case atStart =>
  refine ⟨0, by omega, rfl, gR, cR, H.out.rows.below ((Below.refl w.heap.size w).alloc (nL _) _) hRw, .inl rfl, RowTo.whole w #[.int .i64 0, .string ⟨#[]⟩, .int .i64 0] 46, H.out.box.alloc _, by simp, rfl, rfl, rfl, fun b hb _ _ => Below.heap_alloc _ _ _ hb⟩
 case round =>
  obtain ⟨k, hk, rfl, g, c, hown, hloc, hres, hbox, hsz, ho1, ho2, ho3, hoth⟩ := hrel
  by_cases hlt : k < l.length
  ·have hG : wr.heap[G i 3]? = w.heap[G i 3]? := hoth _ hGw n5 n4
   have hlk := (HL.out.same hG).row
   have d0 := hlk.cell (j := k * 2) (by rw [flat_length]; omega)
   have d1 := hlk.cell (j := k * 2 + 1) (by rw [flat_length]; omega)
   have e0 := flat_fst l k hlt
   have e1 := flat_snd l k hlt
   rw [List.getElem?_eq_getElem (by rw [flat_length]; omega)] at e0 e1
   rw [Option.some.inj e0] at d0
   rw [Option.some.inj e1] at d1
   have x0 := hbox.cell (j := 0) (by simp)
   simp only [gCZ] at x0
   have xf := hbox.frozen 0
   have hxl := hbox.lt
   have hgl := hown.row.lt
   have hpl := plusF_len W.rows (l.take k)
   have htl : (l.take k).length = k := by rw [List.length_take]; omega
   rw [htl] at hpl
   have hrr := plusF_rising HR.out (l.take k)
   have hss : Sz (plusF W.rows (l.take k)) := plusF_sz HZ.out.rows.sz (fun p hp => HLz.out p (List.mem_of_mem_take hp))
   have HS := jD ((plusF_step (rows := W.rows) hlt).trans (plus_ins hrr))
   have HI := jD (fun (w9 : World) (h9 : OwnL w9 g c (plusF W.rows (l.take k))) => backInsert_any g c _ l[k].1 l[k].2 w9 h9 hrr (by omega) hss)
   have HO := jD hown
   have HX := jD hbox
   have HY := jD hres
   have HK := jD (And.intro ho1 (And.intro ho2 (And.intro ho3 hoth)))
   clear hG hlk e0 e1 hpl htl hrr hss hown hbox hres ho1 ho2 ho3 hoth
   unfold slc at x0
   go_wp2
   clear d0 d1
   have b0 : Below wr.heap.size wr (wr.alloc (.cells #[.string l[k].1, .string l[k].2] 60)) := (Below.refl _ _).alloc (nL _) _
   have p0 : (wr.alloc (.cells #[.string l[k].1, .string l[k].2] 60)).cell? ⟨wr.heap.size, 0, none⟩ = some (.string l[k].1) := by simp [go_sem]
   have p1 : (wr.alloc (.cells #[.string l[k].1, .string l[k].2] 60)).cell? ⟨wr.heap.size, 1, none⟩ = some (.string l[k].2) := by simp [go_sem]
   have y0 := (b0.cell (p := ⟨X, 0, none⟩) hxl).trans x0
   have O0 := jD (HO.out.below b0 hgl)
   have X0 := jD (HX.out.below b0 hxl)
   have R0 := jD (HY.out.below b0 HY.out.lt)
   have hz0 : (wr.alloc (.cells #[.string l[k].1, .string l[k].2] 60)).heap.size = wr.heap.size + 1 := by simp
   have B0 := jD b0
   clear b0 x0 xf
   generalize wr.alloc (.cells #[.string l[k].1, .string l[k].2] 60) = W0 at *
   have hw0 : wr.heap.size < W0.heap.size := by omega
   have HZ0 := jD hz0
   clear hz0
   go_region_with (first
    | (
     go_at_call 94
     refine (HI.out _ (by first | exact O0.out | exact O0.out.same rfl)).mono ?_
     rintro e wB ⟨g', c', rfl, ho', hl', hgr⟩
     have hgB : W0.grownBy wB (some g) := ⟨hgr.os, hgr.tape, hgr.output, hgr.size, hgr.block⟩
     have hl8 : g' = g ∨ W0.heap.size ≤ g' := hl'
     have hXg : X ≠ g := by rcases hloc with h | h <;> omega
     have X1 := X0.out.same (hgB.block X X0.out.lt (fun e => hXg (by injection e)))
     have q0 := X1.cell (j := 0) (by simp)
     have qf := X1.frozen 0
     simp only [gCZ] at q0
     unfold slc at q0))
   all_goals
    have HZ8 := jD (And.intro ho' (And.intro hl8 (And.intro hgB X1)))
    clear ho' hl8 hgB X1 hl' hgr q0 qf
    go_wp2
    go_roundw
    case rel =>
     obtain ⟨a1, a2, a3, a4⟩ := HZ8.out
     obtain ⟨k1, k2, k3, k4⟩ := HK.out
     have hsB := a3.size
     have hgX : X ≠ g' := by rcases a2 with h | h <;> omega
     have hwg : w.heap.size ≠ g := by rcases hloc with h | h <;> omega
     have hl9 : g' = gR ∨ w.heap.size + 1 ≤ g' := by
      rcases a2 with h | h
      ·rw [h]; exact hloc
      ·right; omega
     have hXR : X ≠ w.heap.size := by omega
     refine ⟨k + 1, by omega, by go_num, g', c', ?_, hl9, ?_, ?_, ?_, ?_, ?_, ?_, fun b hb h1 h2 => ?_⟩
     ·rw [HS.out]; exact ⟨a1.row.other hgX _, a1.len, a1.most⟩
     ·exact (R0.out.same (a3.block _ R0.out.lt (fun e => hwg (by injection e)))).other (p := ⟨X, 0, none⟩) hXR _
     ·rw [HS.out]; exact a4.put (by simp) _
     ·have : w.heap.size + 1 ≤ wB.heap.size := by omega
      simpa [World.setCell] using this
     ·exact (a3.os.trans B0.out.os).trans k1
     ·exact (a3.tape.trans B0.out.tape).trans k2
     ·exact (a3.output.trans B0.out.output).trans k3
     ·have hbg : b ≠ g := by rcases hloc with h | h <;> omega
      rw [Below.heap_setCell _ _ _ _ h2, a3.block b (by omega) (fun e => hbg (by injection e)), B0.out.block b (by omega)]
      exact k4 b hb h1 h2
    case measure => simp [intOf]; omega
  ·obtain rfl : k = l.length := by omega
   rw [List.take_length] at hown hbox
   have hSS : wr.heap[S]? = w.heap[S]? := hoth S hSw (Ne.symm n3) (Ne.symm n1)
   have hb9 := (H.out.blk.same hSS)
   have f0 := hb9.frozen (i * 5)
   have f3 := hb9.frozen (i * 5 + 3)
   have f4 := hb9.frozen (i * 5 + 4)
   obtain ⟨u0, d0⟩ := hb9.any (j := i * 5) (by omega)
   obtain ⟨u3, d3⟩ := hb9.any (j := i * 5 + 3) (by omega)
   obtain ⟨u4, d4⟩ := hb9.any (j := i * 5 + 4) (by omega)
   have HO := jD hown
   have HX := jD hbox
   have HY := jD hres
   have HK := jD (And.intro ho1 (And.intro ho2 (And.intro ho3 (And.intro hoth hSS))))
   have HB := jD hb9
   have hSr : S < wr.heap.size := by omega
   clear hown hbox hres ho1 ho2 ho3 hoth hSS hb9
   go_wp2_with fail
   have ch1 := ((((Chs.refl wr S).setS (j := i * 5) (.int .i64 0)).setS (j := i * 5 + 3) (.slice none 0 0)).setS (j := i * 5 + 4) (.slice none 0 0))
   have Y1 := ((HY.out.other (p := ⟨S, i * 5, none⟩) (by show S ≠ _; omega) (.int .i64 0)).other (p := ⟨S, i * 5 + 3, none⟩) (by show S ≠ _; omega) (.slice none 0 0)).other (p := ⟨S, i * 5 + 4, none⟩) (by show S ≠ _; omega) (.slice none 0 0)
   refine (done_any _).mono ?_
   rintro e w3 ⟨rfl, hy3⟩
   have ch3 := ch1.below hy3 ch1.size hSr
   have X3 := Y1.below hy3 Y1.lt
   have r0 := X3.cell (j := 0) (by simp)
   have r1 := X3.cell (j := 1) (by simp)
   have r2 := X3.cell (j := 2) (by simp)
   have s0 := X3.frozen 0
   have s1 := X3.frozen 1
   have s2 := X3.frozen 2
   simp only [gCZ, gCS] at r0 r1 r2
   have HC3 := jD ch3
   clear ch1 ch3 Y1 X3 hy3
   unfold ansV
   go_wp2
   refine bodyPost_ret (v := .agg #[.int .i64 1, .string ⟨#[]⟩, .int .i64 0]) (by simp [results, Tryz.results66, go_sem, r0, r1, r2]) rfl ?_
   obtain ⟨k1, k2, k3, k4, k5⟩ := HK.out
   have c3 := HC3.out
   obtain ⟨wF, hF⟩ : ∃ wF, wF = (((w3.setCell ⟨w.heap.size, 0, none⟩ (.int .i64 1)).setCell ⟨w.heap.size, 1, none⟩ (.string ⟨#[]⟩)).setCell ⟨w.heap.size, 2, none⟩ (.int .i64 0)) := ⟨_, rfl⟩
   rw [← hF]
   have blk : ∀ b, b ≠ w.heap.size → wF.heap[b]? = w3.heap[b]? := fun b hb => by
    rw [hF, Below.heap_setCell _ _ _ _ hb, Below.heap_setCell _ _ _ _ hb, Below.heap_setCell _ _ _ _ hb]
   have hszF : wr.heap.size ≤ wF.heap.size := by rw [hF]; have := c3.size; simpa [World.setCell] using this
   have old : ∀ b, b < w.heap.size → b ≠ gR → b ≠ X → b ≠ S → wF.heap[b]? = w.heap[b]? := fun b hb h1 h2 h3 => by
    rw [blk b (by omega), c3.other b (by omega) h3]; exact k4 b hb h1 h2
   have hfs : wF.heap[S]? = (((wr.setCell ⟨S, i * 5, none⟩ (.int .i64 0)).setCell ⟨S, i * 5 + 3, none⟩ (.slice none 0 0)).setCell ⟨S, i * 5 + 4, none⟩ (.slice none 0 0)).heap[S]? := (blk S (by omega)).trans c3.here
   have hXF : wF.heap[X]? = wr.heap[X]? := (blk X (by omega)).trans (c3.other X (by omega) n1)
   have hgS : g ≠ S := by rcases hloc with h | h <;> omega
   have hgF : wF.heap[g]? = wr.heap[g]? := (blk g (by rcases hloc with h | h <;> omega)).trans (c3.other g HO.out.row.lt hgS)
   have cc : ∀ j, wF.cell? ⟨S, j, none⟩ = (((wr.setCell ⟨S, i * 5, none⟩ (.int .i64 0)).setCell ⟨S, i * 5 + 3, none⟩ (.slice none 0 0)).setCell ⟨S, i * 5 + 4, none⟩ (.slice none 0 0)).cell? ⟨S, j, none⟩ := fun j => World.cell?_of_block hfs
   have cw : ∀ j, wr.cell? ⟨S, j, none⟩ = w.cell? ⟨S, j, none⟩ := fun j => World.cell?_of_block k5
   have hh := H.out
   have hzz := HZ.out
   have hrow := (((HB.out.hit (j := i * 5) (.int .i64 0)).hit (j := i * 5 + 3) (.slice none 0 0)).hit (j := i * 5 + 4) (.slice none 0 0)).same hfs
   have hl5 : Sz l := HLz.out
   have hpl := plusF_len W.rows l
   have lk : ∀ j, j < 4 → j ≠ 3 → j ≠ 2 → Lst wF wF.heap.size (slc (G i j) (W.ss[i].li j).length (C i j)) (W.ss[i].li j) := fun j hj _ _ =>
    ((hh.ls i j hi hj).same (old _ (hh.ls i j hi hj).row.lt (hh.neGR i j hi hj) (hh.neGX i j hi hj) (hh.neGS i j hi hj))).lst (by have := (hzz.li i j hi hj).1; omega) (hzz.li i j hi hj).sz
   refine ⟨rfl, ?_, ⟨?_, ?_, ?_, by omega, fun b hbb => old b (by omega) (by have := lo.r; omega) (by have := lo.x; omega) (by have := lo.s; omega)⟩, fun b hb h1 h2 h3 _ => old b hb h3 h1 h2⟩
   ·refine hh.left lo ?_ ?_ hzz hi (by omega) (HX.out.same hXF) hrow (((HO.out.same hgF).lst (by omega) (plusF_sz hzz.rows.sz hl5))) (fun k j hk hj => ?_) (fun k j hk hne hj => old _ (hh.ls k j hk hj).row.lt (hh.neGR k j hk hj) (hh.neGX k j hk hj) (hh.neGS k j hk hj))
     (v1 := slc (G i 0) (W.ss[i].li 0).length (C i 0)) (v2 := slc (G i 1) (W.ss[i].li 1).length (C i 1)) (v3 := .slice none 0 0) (v4 := .slice none 0 0) ⟨?_, ?_, ?_, ?_, ?_, lk 0 (by omega) (by omega) (by omega), lk 1 (by omega) (by omega) (by omega), Lst.none_ _ _, Lst.none_ _ _⟩
    ·exact LoV.at (by have := lo.r; rcases hloc with h | h <;> omega)
    ·exact ⟨lo.v hi (by omega), lo.v hi (by omega), LoV.non _ _ _, LoV.non _ _ _⟩
    ·rw [cc, cell_off _ (by omega), cell_off _ (by omega), cell_off _ (by omega), cw]
    ·rw [cc, cell_off _ (by omega), cell_off _ (by omega)]; exact cell_put HB.out (by omega) _
    ·rw [cc, cell_off _ (by omega), cell_off _ (by omega), cell_off _ (by omega), cw]; exact hh.cs i 0 hi (by omega)
    ·rw [cc, cell_off _ (by omega), cell_off _ (by omega), cell_off _ (by omega), cw]; exact hh.cs i 1 hi (by omega)
    ·rw [cc, cell_off _ (by omega)]; exact cell_put (HB.out.hit _) (by omega) _
    ·rw [cc]; exact cell_put ((HB.out.hit _).hit _) (by omega) _
   ·rw [hF]; exact c3.os.trans k1
   ·rw [hF]; exact c3.tape.trans k2
   ·rw [hF]; exact c3.output.trans k3
end Go.Proofs.YtpbaobmegomfpabGreatDoor
