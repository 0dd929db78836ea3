/-
  Texts of the proof, one behind the other: BPut, BPutA, BPutB, BPutC.
-/
import Derived.Test.YtpbaobmegomfpabGreatDoorM5
import Derived.Test.YtpbaobmegomfpabGreatDoorM6
import Derived.Test.YtpbaobmegomfpabGreatDoorM8
set_option linter.unusedVariables false
set_option linter.unusedSimpArgs false
set_option maxRecDepth 100000
open List renaming getElem_toArray → gTA, getElem_cons_zero → gCZ, getElem_cons_succ → gCS, setIfInBounds_toArray → sTA, set_cons_zero → sCZ, set_cons_succ → sCS
open Go.Lib renaming hid → jD
open Nat renaming le_refl → nL
namespace Go.Proofs.YtpbaobmegomfpabGreatDoor
open Go.RowKit Go.Maps Go.WideMaps
theorem store_ok (g c pb po : Nat) (l : PL) (k : Int) (key val : ByteArray) (limit : Nat) (w : World) (ho : OwnL w g c l) (hr : risingB l = true) (hn : l.length ≤ 1000) (hs : Sz l)
  (hp : w.cell? ⟨pb, po, none⟩ = some (.slice (some ⟨g, 0, none⟩) l.length c)) (hpf : w.frozen? ⟨pb, po, none⟩ = false) (hne : pb ≠ g) (hk : key.size ≤ 140737488351232) (hv : val.size ≤ 140737488351232) (hf : fndL l key = true ∨ l.length < limit) :
  Calls Tryz.prog 70 #[.pointer (some ⟨pb, po, none⟩), .agg #[.int .i64 k, .string key, .string val], .int .i64 limit] w (StorePost w g pb po (insL l key val)) := by
 cases e : fndL l key
 ·exact store_room g c pb po l k key val limit w ho hr hn hs hp hpf hne hk hv e (hf.resolve_left (by simp [e]))
 ·exact store_found g c pb po l k key val limit w ho hr hn hs hp hpf hne hk hv e
theorem OwnD.wld {w : World} {X S gR cR : Nat} {G C : Nat → Nat → Nat} {W : Wd} (h : OwnD w X S gR cR G C W) (hz : SzW W) : Wld w w.heap.size (slc gR W.rows.length cR) (slc S W.ss.length W.ss.length) W := by
 refine ⟨h.rows.lst (by have := hz.rows.1; omega) hz.rows.sz, ⟨⟨_, _, rfl, nL _⟩, by have := hz.many; omega, fun hn => ⟨S, 0, W.ss.length, rfl, h.blk.lt, fun i hi => ?_⟩⟩⟩
 rw [Nat.zero_add]
 exact ⟨_, _, _, _, h.st i hi, h.cs i 0 hi (by omega), h.cs i 1 hi (by omega), h.cs i 2 hi (by omega), h.cs i 3 hi (by omega), h.list hz hi (j := 0) (by omega), h.list hz hi (j := 1) (by omega), h.list hz hi (j := 2) (by omega), h.list hz hi (j := 3) (by omega)⟩
theorem OwnD.stored {w w' : World} {base X S gR cR : Nat} {G C : Nat → Nat → Nat} {W : Wd} (h : OwnD w X S gR cR G C W) (lo : LoD base X S gR G W.ss.length) {g' : Nat} (hlg : base ≤ g') (hz : SzW W) {i : Nat} (hi : i < W.ss.length) {j : Nat} (hj : j < 4) {l' : PL} {c' : Nat} {s' : Sess} (hl' : l'.length ≤ 1000) (hs' : Sz l')
  (ho : OwnL w' g' c' l') (hc : Chg w w' (G i j) S (i * 5 + (j + 1)) (.slice (some ⟨g', 0, none⟩) l'.length c')) (hst : s'.st = W.ss[i].st) (hli : ∀ k, k < 4 → s'.li k = if k = j then l' else W.ss[i].li k) : EndW w' base X S (W.put i s') := by
 have ne := h.neGS i j hi hj
 have cc : ∀ k, w'.cell? ⟨S, k, none⟩ = (w.setCell ⟨S, i * 5 + (j + 1), none⟩ (.slice (some ⟨g', 0, none⟩) l'.length c')).cell? ⟨S, k, none⟩ := fun k => World.cell?_of_block hc.here
 have hblk : RowTo w' S 115 (W.ss.length * 5) [] := (h.blk.hit (j := i * 5 + (j + 1)) _).same hc.here
 have cell : ∀ k, k < 4 → ∃ v, w'.cell? ⟨S, i * 5 + (k + 1), none⟩ = some v ∧ Lst w' w'.heap.size v (s'.li k) ∧ LoV base v := fun k hk => by
  rw [hli k hk]
  by_cases e : k = j
  ·subst e
   rw [if_pos rfl]
   exact ⟨_, (cc _).trans (cell_put h.blk (by omega) _), ho.lst hl' hs', LoV.at hlg⟩
  ·rw [if_neg e]
   refine ⟨_, (cc _).trans ((cell_off _ (by omega)).trans (h.cs i k hi hk)), ?_, lo.v hi hk⟩
   exact ((h.ls i k hi hk).same (hc.other _ (h.ls i k hi hk).row.lt (fun e' => e (h.inj i k i j hi hk hi hj e').2) (h.neGS i k hi hk))).lst (by have := (hz.li i k hi hk).1; omega) (hz.li i k hi hk).sz
 obtain ⟨v1, d1, m1, o1⟩ := cell 0 (by omega)
 obtain ⟨v2, d2, m2, o2⟩ := cell 1 (by omega)
 obtain ⟨v3, d3, m3, o3⟩ := cell 2 (by omega)
 obtain ⟨v4, d4, m4, o4⟩ := cell 3 (by omega)
 refine h.left lo (LoV.slc lo.r) ⟨o1, o2, o3, o4⟩ hz hi hc.size (h.box.same (hc.other X h.box.lt (Ne.symm (h.neGX i j hi hj)) h.neXS)) hblk ((h.rows.same (hc.other gR h.rows.row.lt (Ne.symm (h.neGR i j hi hj)) h.neRS)).lst (by have := hz.rows.1; omega) hz.rows.sz)
  (fun k q hk hq => (cc _).trans (cell_off _ (by omega))) (fun k q hk hne hq => hc.other _ (h.ls k q hk hq).row.lt (fun e' => hne (h.inj k q i j hk hq hi hj e').1) (h.neGS k q hk hq)) ⟨(cc _).trans ((cell_off _ (by omega)).trans (by rw [hst]; exact h.st i hi)), d1, d2, d3, d4, m1, m2, m3, m4⟩
theorem cell_set3' {w : World} {b R i : Nat} {u x y z : Value} (h : w.cell? ⟨b, i, none⟩ = some u) (hne : b ≠ R) :
  (((w.setCell ⟨R, 0, none⟩ x).setCell ⟨R, 1, none⟩ y).setCell ⟨R, 2, none⟩ z).cell? ⟨b, i, none⟩ = some u := by
 simp [go_sem, h]
theorem OwnD.storedR {w w' : World} {base X S gR cR : Nat} {G C : Nat → Nat → Nat} {W : Wd} (h : OwnD w X S gR cR G C W) (lo : LoD base X S gR G W.ss.length) {g' : Nat} (hlg : base ≤ g') (hz : SzW W) {i : Nat} (hi : i < W.ss.length) {l' : PL} {c' : Nat} (hl' : l'.length ≤ 1000) (hs' : Sz l')
  (ho : OwnL w' g' c' l') (hc : Chg w w' gR X 0 (.slice (some ⟨g', 0, none⟩) l'.length c')) : EndW w' base X S ⟨l', W.ss⟩ := by
 have hS : w'.heap[S]? = w.heap[S]? := hc.other S h.blk.lt (Ne.symm h.neRS) (Ne.symm h.neXS)
 have cS : ∀ k, w'.cell? ⟨S, k, none⟩ = w.cell? ⟨S, k, none⟩ := fun k => World.cell?_of_block hS
 have hL : ∀ k j, k < W.ss.length → j < 4 → w'.heap[G k j]? = w.heap[G k j]? := fun k j hk hj => hc.other _ (h.ls k j hk hj).row.lt (h.neGR k j hk hj) (h.neGX k j hk hj)
 have ll : ∀ j, j < 4 → Lst w' w'.heap.size (slc (G i j) (W.ss[i].li j).length (C i j)) (W.ss[i].li j) := fun j hj => ((h.ls i j hi hj).same (hL i j hi hj)).lst (by have := (hz.li i j hi hj).1; omega) (hz.li i j hi hj).sz
 have hb := (h.box.put (j := 0) (by simp) (.slice (some ⟨g', 0, none⟩) l'.length c')).same hc.here
 have := h.left lo (LoV.at hlg) ⟨lo.v hi (j := 0) (by omega), lo.v hi (j := 1) (by omega), lo.v hi (j := 2) (by omega), lo.v hi (j := 3) (by omega)⟩ hz hi (s' := W.ss[i]) (rows' := l') hc.size hb (h.blk.same hS) (ho.lst hl' hs') (fun k j _ _ => cS _) (fun k j hk _ hj => hL k j hk hj)
  ⟨(cS _).trans (h.st i hi), (cS _).trans (h.cs i 0 hi (by omega)), (cS _).trans (h.cs i 1 hi (by omega)), (cS _).trans (h.cs i 2 hi (by omega)), (cS _).trans (h.cs i 3 hi (by omega)), ll 0 (by omega), ll 1 (by omega), ll 2 (by omega), ll 3 (by omega)⟩
 rwa [List.set_getElem_self] at this
theorem Chg.pull {w w8 w' : World} {g pb po : Nat} {v : Value} (hb : Below w.heap.size w w8) (hp : pb < w.heap.size) (c : Chg w8 w' g pb po v) : Chg w w' g pb po v :=
 ⟨c.os.trans hb.os, c.tape.trans hb.tape, c.output.trans hb.output, Nat.le_trans hb.size c.size, fun b hbl h1 h2 => (c.other b (by have := hb.size; omega) h1 h2).trans (hb.block b hbl), c.here.trans (setCell_block (p := ⟨pb, po, none⟩) (hb.block pb hp))⟩
theorem Chg.setN {w w' : World} {g pb po : Nat} {v : Value} (c : Chg w w' g pb po v) {p : Addr} (hp : w.heap.size ≤ p.block) (hpb : pb < w.heap.size) (u : Value) : Chg w (w'.setCell p u) g pb po v :=
 ⟨c.os, c.tape, c.output, by simpa [World.setCell] using c.size, fun b hb h1 h2 => (Below.heap_setCell _ _ _ _ (by omega)).trans (c.other b hb h1 h2), (Below.heap_setCell _ _ _ _ (by omega)).trans c.here⟩
theorem Chg.bel {w w' : World} {g pb po base : Nat} {v : Value} (c : Chg w w' g pb po v) (h1 : base ≤ g) (h2 : base ≤ pb) (hw : base ≤ w.heap.size) : Below base w w' :=
 ⟨c.os, c.tape, c.output, c.size, fun k hk => c.other k (by omega) (by omega) (by omega)⟩
set_option maxHeartbeats 4000000 in
theorem put_held (base X S gR cR : Nat) (G C : Nat → Nat → Nat) (W : Wd) (i : Nat) (key val : ByteArray) (w : World) (h : OwnD w X S gR cR G C W) (lo : LoD base X S gR G W.ss.length) (hw : WorldOk W) (hb : base ≤ w.heap.size) (hi : i < W.ss.length) (hkz : key.size ≤ 8) (hvz : val.size ≤ 60) (hh : heldB W.ss i key = true) :
  Calls Tryz.prog 71 #[.pointer (some ⟨X, 0, none⟩), .int .i64 i, .agg #[.int .i64 10, .string key, .string val]] w fun e w' => e = .returned (ansV 4 tHeld) ∧ Below w.heap.size w w' := by
 have hcn := (held_cnt hw hi key).symm
 rw [hh] at hcn
 rw [Bool.and_eq_true, decide_eq_true_eq, Bool.not_eq_true'] at hcn
 have HOWN := jD hcn.2
 have hpos := hcn.1
 clear hcn hh
 have hz := worldOk_sz hw
 have hXw := h.box.lt
 have hSw := h.blk.lt
 have hpr := pairsB_rising hw.rows
 have HCW := jD (fun (w9 : World) (h9 : Wld w9 w9.heap.size (slc gR W.rows.length cR) (slc S W.ss.length W.ss.length) W) => countWriters_any _ _ W w9 h9 hpr.2.1 hpr.1 hw.many (fun j hj => (pairsB_rising (hw.sess j hj).wr).2.1))
 have HWR := jD ((pairsB_rising (hw.sess i hi).wr).1)
 have b0 : Below w.heap.size w ((w.alloc (.cells #[.int .i64 10, .string key, .string val] 41)).alloc (.cells #[.int .i64 0, .string ⟨#[]⟩, .int .i64 0] 46)) := ((Below.refl _ _).alloc (nL _) _).alloc (by simp) _
 have h0 := h.kept b0
 have x0 := h.box.cell (j := 0) (by simp)
 have x1 := h.box.cell (j := 1) (by simp)
 simp only [gCZ, gCS] at x0 x1
 unfold slc at x0 x1
 have X0 : RowTo ((w.alloc (.cells #[.int .i64 10, .string key, .string val] 41)).alloc (.cells #[.int .i64 0, .string ⟨#[]⟩, .int .i64 0] 46)) (w.heap.size + 1) 46 3 [.int .i64 0, .string ⟨#[]⟩, .int .i64 0] := by
  have := RowTo.whole (w.alloc (.cells #[.int .i64 10, .string key, .string val] 41)) #[.int .i64 0, .string ⟨#[]⟩, .int .i64 0] 46
  simpa using this
 have Y0 : RowTo ((w.alloc (.cells #[.int .i64 10, .string key, .string val] 41)).alloc (.cells #[.int .i64 0, .string ⟨#[]⟩, .int .i64 0] 46)) w.heap.size 41 3 [.int .i64 10, .string key, .string val] := (RowTo.whole w #[.int .i64 10, .string key, .string val] 41).alloc _
 have hzs : ((w.alloc (.cells #[.int .i64 10, .string key, .string val] 41)).alloc (.cells #[.int .i64 0, .string ⟨#[]⟩, .int .i64 0] 46)).heap.size = w.heap.size + 1 + 1 := by simp
 have hkey := klKey (s := key) (by omega)
 have hii : (i : Int) < (W.ss.length : Int) := by omega
 have H := jD h
 have H0 := jD h0
 have HZ := jD hz
 have HW := jD hw
 have B0 := jD b0
 have HX0 := jD X0
 have HY0 := jD Y0
 have HZS := jD hzs
 clear h h0 hz hw b0 X0 Y0 hzs hpr
 go_enter Tryz.func71, Tryz.ntmps71
 go_wp2_with fail
 refine (HCW.out _ (H0.out.wld HZ.out)).mono ?_
 rintro e w1 ⟨bm, n, M, rfl, hown, hmap, hn, hbm, hb1⟩
 have hs1 := hb1.size
 have H1 := jD (H0.out.kept hb1)
 have B1 := jD (bel_add' B0.out hb1 B0.out.size)
 have X1 := jD (HX0.out.below hb1 HX0.out.lt)
 have Y1 := HY0.out.below hb1 HY0.out.lt
 have q1 := Y1.cell (j := 1) (by simp)
 simp only [gCZ, gCS] at q1
 have HY1 := jD Y1
 have HO := jD hown
 have HM := jD hmap
 have HAT := jD (hmap.at_ key)
 have hhas : Maps.has M (kl key) = fndL (allL W) key := hmap.has key
 have hsize : Maps.size M = (allL W).length := hmap.size
 rw [HZS.out] at hs1
 have hbm' : w.heap.size + 1 + 1 ≤ bm := by rw [HZS.out] at hbm; exact hbm
 clear hown hmap hb1 Y1 x0 x1 hbm
 have g1 : decide ((0 : Int) < (cntL (W.ss.flatMap (·.wr)) key : Int)) = true := decide_eq_true (by omega)
 have g2 : decide (0 < cntL (W.ss.flatMap (·.wr)) key) = true := decide_eq_true hpos
 go_wp2_with (first
  | (at_lookup; refine wpList_lookup_own_ok_int _ rfl _ _ 162 rfl 9 3 .i64 strLaw Tryz.underlying162 Tryz.underlying3 (zeroInt _) bm n _ rfl HO.out _ _ rfl hkey ?_; intro q hat hwq; obtain rfl : q = (cntL (W.ss.flatMap (·.wr)) key : Int) := (lit_inj (HAT.out.symm.trans hat)).symm; clear hat hwq)
  | go_in)
 have q4 : w1.cell? ⟨S, i * 5 + 4, none⟩ = some (.slice (some ⟨G i 3, 0, none⟩) W.ss[i].wr.length (C i 3)) := H1.out.cs i 3 hi (by omega)
 have hl4 := jD (show Lst w1 w1.heap.size (.slice (some ⟨G i 3, 0, none⟩) W.ss[i].wr.length (C i 3)) W.ss[i].wr from H1.out.list HZ.out hi (j := 3) (by omega))
 have hz0 : w.heap.size < w1.heap.size := by omega
 have hz1 : S < w1.heap.size := H1.out.blk.lt
 have kb := Below.refl w1.heap.size w1
 have dS := jD (show w1.drew.cell? ⟨S, i * 5 + 4, none⟩ = some (.slice (some ⟨G i 3, 0, none⟩) W.ss[i].wr.length (C i 3)) ∧ w1.drew.cell? ⟨w.heap.size, 1, none⟩ = some (.string key) from ⟨q4, q1⟩)
 go_region_held3 (fun wx => wx.cell? ⟨S, i * 5 + 4, none⟩ = some (.slice (some ⟨G i 3, 0, none⟩) W.ss[i].wr.length (C i 3)) ∧ wx.cell? ⟨w.heap.size, 1, none⟩ = some (.string key))
  (first
   | with_reducible exact ⟨q4, q1⟩
   | with_reducible exact dS.out
   | with_reducible exact ⟨(kb.cell (p := ⟨S, i * 5 + 4, none⟩) hz1).trans q4, (kb.cell (p := ⟨w.heap.size, 1, none⟩) hz0).trans q1⟩)
  (first
   | (
    go_at_call 95
    refine (place_any _ W.ss[i].wr key _ (by first | exact hl4.out | exact (hl4.out.step ((Below.refl _ _).drew)) | exact (hl4.out.step (below_drewN (Below.refl _ _) _))) HWR.out).mono ?_
    rw [HOWN.out]
    rintro e w8 ⟨rfl, hy⟩
    have kb : Below w1.heap.size w1 w8 := by first | exact kb.trans (hy.mono kb.size) | exact kb.trans ⟨hy.os, hy.tape, hy.output, hy.size, fun i hi => hy.block i (Nat.lt_of_lt_of_le hi kb.size)⟩))
 have hs8 := kb.size
 have H8 := jD (H1.out.kept kb)
 have B8 := jD (bel_add' B1.out kb B1.out.size)
 have X8 := jD (X1.out.below kb X1.out.lt)
 have Y8 := jD (HY1.out.below kb HY1.out.lt)
 have O8 := jD (HO.out.kept (grown_of_below kb none) (by simp))
 clear kb q1 q4 dS
 go_wp2_with fail
 refine (failure_any tHeld _).mono ?_
 rintro e w9 ⟨rfl, hb9⟩
 have X9 := X8.out.below hb9 X8.out.lt
 have r0 := X9.cell (j := 0) (by simp)
 have r1 := X9.cell (j := 1) (by simp)
 have r2 := X9.cell (j := 2) (by simp)
 have s0 := X9.frozen 0
 have s1 := X9.frozen 1
 have s2 := X9.frozen 2
 simp only [gCZ, gCS] at r0 r1 r2
 have B9 := jD (bel_add' B8.out hb9 B8.out.size)
 clear X9 hb9
 unfold ansV
 go_wp2
 refine bodyPost_ret (v := .agg #[.int .i64 4, .string tHeld, .int .i64 0]) (by simp [results, Tryz.results71, go_sem, r0, r1, r2]) rfl ⟨rfl, ?_⟩
 exact ((B9.out.setCell (by simp) _).setCell (by simp) _).setCell (by simp) _
set_option maxHeartbeats 4000000 in
theorem put_full_none (base X S gR cR : Nat) (G C : Nat → Nat → Nat) (W : Wd) (i : Nat) (key val : ByteArray) (w : World) (h : OwnD w X S gR cR G C W) (lo : LoD base X S gR G W.ss.length) (hw : WorldOk W) (hb : base ≤ w.heap.size) (hi : i < W.ss.length) (hkz : key.size ≤ 8) (hvz : val.size ≤ 60) (hown : fndL W.ss[i].wr key = false) (hc0 : cntL (W.ss.flatMap (·.wr)) key = 0) (hfn : fndL (allL W) key = false) (hfl : 100 ≤ (allL W).length) :
  Calls Tryz.prog 71 #[.pointer (some ⟨X, 0, none⟩), .int .i64 i, .agg #[.int .i64 10, .string key, .string val]] w fun e w' => e = .returned (ansV 4 tFull) ∧ Below w.heap.size w w' := by
 have HOWN := jD hown
 clear hown
 have hz := worldOk_sz hw
 have hXw := h.box.lt
 have hSw := h.blk.lt
 have hpr := pairsB_rising hw.rows
 have HCW := jD (fun (w9 : World) (h9 : Wld w9 w9.heap.size (slc gR W.rows.length cR) (slc S W.ss.length W.ss.length) W) => countWriters_any _ _ W w9 h9 hpr.2.1 hpr.1 hw.many (fun j hj => (pairsB_rising (hw.sess j hj).wr).2.1))
 have HWR := jD ((pairsB_rising (hw.sess i hi).wr).1)
 have b0 : Below w.heap.size w ((w.alloc (.cells #[.int .i64 10, .string key, .string val] 41)).alloc (.cells #[.int .i64 0, .string ⟨#[]⟩, .int .i64 0] 46)) := ((Below.refl _ _).alloc (nL _) _).alloc (by simp) _
 have h0 := h.kept b0
 have x0 := h.box.cell (j := 0) (by simp)
 have x1 := h.box.cell (j := 1) (by simp)
 simp only [gCZ, gCS] at x0 x1
 unfold slc at x0 x1
 have X0 : RowTo ((w.alloc (.cells #[.int .i64 10, .string key, .string val] 41)).alloc (.cells #[.int .i64 0, .string ⟨#[]⟩, .int .i64 0] 46)) (w.heap.size + 1) 46 3 [.int .i64 0, .string ⟨#[]⟩, .int .i64 0] := by
  have := RowTo.whole (w.alloc (.cells #[.int .i64 10, .string key, .string val] 41)) #[.int .i64 0, .string ⟨#[]⟩, .int .i64 0] 46
  simpa using this
 have Y0 : RowTo ((w.alloc (.cells #[.int .i64 10, .string key, .string val] 41)).alloc (.cells #[.int .i64 0, .string ⟨#[]⟩, .int .i64 0] 46)) w.heap.size 41 3 [.int .i64 10, .string key, .string val] := (RowTo.whole w #[.int .i64 10, .string key, .string val] 41).alloc _
 have hzs : ((w.alloc (.cells #[.int .i64 10, .string key, .string val] 41)).alloc (.cells #[.int .i64 0, .string ⟨#[]⟩, .int .i64 0] 46)).heap.size = w.heap.size + 1 + 1 := by simp
 have hkey := klKey (s := key) (by omega)
 have hii : (i : Int) < (W.ss.length : Int) := by omega
 have H := jD h
 have H0 := jD h0
 have HZ := jD hz
 have HW := jD hw
 have B0 := jD b0
 have HX0 := jD X0
 have HY0 := jD Y0
 have HZS := jD hzs
 clear h h0 hz hw b0 X0 Y0 hzs hpr
 go_enter Tryz.func71, Tryz.ntmps71
 go_wp2_with fail
 refine (HCW.out _ (H0.out.wld HZ.out)).mono ?_
 rintro e w1 ⟨bm, n, M, rfl, hown, hmap, hn, hbm, hb1⟩
 have hs1 := hb1.size
 have H1 := jD (H0.out.kept hb1)
 have B1 := jD (bel_add' B0.out hb1 B0.out.size)
 have X1 := jD (HX0.out.below hb1 HX0.out.lt)
 have Y1 := HY0.out.below hb1 HY0.out.lt
 have q1 := Y1.cell (j := 1) (by simp)
 simp only [gCZ, gCS] at q1
 have HY1 := jD Y1
 have HO := jD hown
 have HM := jD hmap
 have HAT := jD (hmap.at_ key)
 have hhas : Maps.has M (kl key) = fndL (allL W) key := hmap.has key
 have hsize : Maps.size M = (allL W).length := hmap.size
 rw [HZS.out] at hs1
 have hbm' : w.heap.size + 1 + 1 ≤ bm := by rw [HZS.out] at hbm; exact hbm
 clear hown hmap hb1 Y1 x0 x1 hbm
 have g1 : decide ((0 : Int) < (cntL (W.ss.flatMap (·.wr)) key : Int)) = false := decide_eq_false (by omega)
 have g2 : decide (0 < cntL (W.ss.flatMap (·.wr)) key) = false := decide_eq_false (by omega)
 rw [hfn] at hhas
 have g3 : decide ((100 : Int) ≤ ((allL W).length : Int)) = true := decide_eq_true (by omega)
 have g4 : decide (100 ≤ (allL W).length) = true := decide_eq_true hfl
 go_wp2_with (first
  | (at_lookup; refine wpList_lookup_own_ok_int _ rfl _ _ 162 rfl 9 3 .i64 strLaw Tryz.underlying162 Tryz.underlying3 (zeroInt _) bm n _ rfl HO.out _ _ rfl hkey ?_; intro q hat hwq; obtain rfl : q = (cntL (W.ss.flatMap (·.wr)) key : Int) := (lit_inj (HAT.out.symm.trans hat)).symm; clear hat hwq)
  | go_in)
 have q4 : w1.cell? ⟨S, i * 5 + 4, none⟩ = some (.slice (some ⟨G i 3, 0, none⟩) W.ss[i].wr.length (C i 3)) := H1.out.cs i 3 hi (by omega)
 have hl4 := jD (show Lst w1 w1.heap.size (.slice (some ⟨G i 3, 0, none⟩) W.ss[i].wr.length (C i 3)) W.ss[i].wr from H1.out.list HZ.out hi (j := 3) (by omega))
 have hz0 : w.heap.size < w1.heap.size := by omega
 have hz1 : S < w1.heap.size := H1.out.blk.lt
 have kb := Below.refl w1.heap.size w1
 have dS := jD (show w1.drew.cell? ⟨S, i * 5 + 4, none⟩ = some (.slice (some ⟨G i 3, 0, none⟩) W.ss[i].wr.length (C i 3)) ∧ w1.drew.cell? ⟨w.heap.size, 1, none⟩ = some (.string key) from ⟨q4, q1⟩)
 go_region_held3 (fun wx => wx.cell? ⟨S, i * 5 + 4, none⟩ = some (.slice (some ⟨G i 3, 0, none⟩) W.ss[i].wr.length (C i 3)) ∧ wx.cell? ⟨w.heap.size, 1, none⟩ = some (.string key))
  (first
   | with_reducible exact ⟨q4, q1⟩
   | with_reducible exact dS.out
   | with_reducible exact ⟨(kb.cell (p := ⟨S, i * 5 + 4, none⟩) hz1).trans q4, (kb.cell (p := ⟨w.heap.size, 1, none⟩) hz0).trans q1⟩)
  (first
   | (
    go_at_call 95
    refine (place_any _ W.ss[i].wr key _ (by first | exact hl4.out | exact (hl4.out.step ((Below.refl _ _).drew)) | exact (hl4.out.step (below_drewN (Below.refl _ _) _))) HWR.out).mono ?_
    rw [HOWN.out]
    rintro e w8 ⟨rfl, hy⟩
    have kb : Below w1.heap.size w1 w8 := by first | exact kb.trans (hy.mono kb.size) | exact kb.trans ⟨hy.os, hy.tape, hy.output, hy.size, fun i hi => hy.block i (Nat.lt_of_lt_of_le hi kb.size)⟩))
 have hs8 := kb.size
 have H8 := jD (H1.out.kept kb)
 have B8 := jD (bel_add' B1.out kb B1.out.size)
 have X8 := jD (X1.out.below kb X1.out.lt)
 have Y8 := jD (HY1.out.below kb HY1.out.lt)
 have O8 := jD (HO.out.kept (grown_of_below kb none) (by simp))
 clear kb q1 q4 dS
 have hlen := O8.out.len (t := 162) (e := 3) Tryz.underlying162
 go_wp2_with fail
 clear hlen
 refine (failure_any tFull _).mono ?_
 rintro e w9 ⟨rfl, hb9⟩
 have X9 := X8.out.below hb9 X8.out.lt
 have r0 := X9.cell (j := 0) (by simp)
 have r1 := X9.cell (j := 1) (by simp)
 have r2 := X9.cell (j := 2) (by simp)
 have s0 := X9.frozen 0
 have s1 := X9.frozen 1
 have s2 := X9.frozen 2
 simp only [gCZ, gCS] at r0 r1 r2
 have B9 := jD (bel_add' B8.out hb9 B8.out.size)
 clear X9 hb9
 unfold ansV
 go_wp2
 refine bodyPost_ret (v := .agg #[.int .i64 4, .string tFull, .int .i64 0]) (by simp [results, Tryz.results71, go_sem, r0, r1, r2]) rfl ⟨rfl, ?_⟩
 exact ((B9.out.setCell (by simp) _).setCell (by simp) _).setCell (by simp) _
set_option maxHeartbeats 4000000 in
theorem put_wr_own (base X S gR cR : Nat) (G C : Nat → Nat → Nat) (W : Wd) (i : Nat) (key val : ByteArray) (w : World) (h : OwnD w X S gR cR G C W) (lo : LoD base X S gR G W.ss.length) (hw : WorldOk W) (hb : base ≤ w.heap.size) (hi : i < W.ss.length) (hkz : key.size ≤ 8) (hvz : val.size ≤ 60) (hown : fndL W.ss[i].wr key = true) (hfn : fndL (allL W) key = true) (hst : W.ss[i].st = 1) :
  Calls Tryz.prog 71 #[.pointer (some ⟨X, 0, none⟩), .int .i64 i, .agg #[.int .i64 10, .string key, .string val]] w (DonePost w base X S gR G W.ss.length (W.put i { W.ss[i] with wr := insL W.ss[i].wr key val })) := by
 have HOWN := jD hown
 have HROOM := jD (room_wr hw hi (key := key) (fun hh => by rw [hfn] at hh; cases hh.1))
 have HPOS := jD (show 0 < cntL (W.ss.flatMap (·.wr)) key by
  have h1 := (some_cnt (key := key) (pairsB_rising (hw.sess i hi).wr).1).2 hown
  have h2 := cnt_one (key := key) hi
  omega)
 have HRR := jD ((pairsB_rising hw.rows).1)
 clear hown
 have hz := worldOk_sz hw
 have hXw := h.box.lt
 have hSw := h.blk.lt
 have hpr := pairsB_rising hw.rows
 have HCW := jD (fun (w9 : World) (h9 : Wld w9 w9.heap.size (slc gR W.rows.length cR) (slc S W.ss.length W.ss.length) W) => countWriters_any _ _ W w9 h9 hpr.2.1 hpr.1 hw.many (fun j hj => (pairsB_rising (hw.sess j hj).wr).2.1))
 have HWR := jD ((pairsB_rising (hw.sess i hi).wr).1)
 have b0 : Below w.heap.size w ((w.alloc (.cells #[.int .i64 10, .string key, .string val] 41)).alloc (.cells #[.int .i64 0, .string ⟨#[]⟩, .int .i64 0] 46)) := ((Below.refl _ _).alloc (nL _) _).alloc (by simp) _
 have h0 := h.kept b0
 have x0 := h.box.cell (j := 0) (by simp)
 have x1 := h.box.cell (j := 1) (by simp)
 simp only [gCZ, gCS] at x0 x1
 unfold slc at x0 x1
 have X0 : RowTo ((w.alloc (.cells #[.int .i64 10, .string key, .string val] 41)).alloc (.cells #[.int .i64 0, .string ⟨#[]⟩, .int .i64 0] 46)) (w.heap.size + 1) 46 3 [.int .i64 0, .string ⟨#[]⟩, .int .i64 0] := by
  have := RowTo.whole (w.alloc (.cells #[.int .i64 10, .string key, .string val] 41)) #[.int .i64 0, .string ⟨#[]⟩, .int .i64 0] 46
  simpa using this
 have Y0 : RowTo ((w.alloc (.cells #[.int .i64 10, .string key, .string val] 41)).alloc (.cells #[.int .i64 0, .string ⟨#[]⟩, .int .i64 0] 46)) w.heap.size 41 3 [.int .i64 10, .string key, .string val] := (RowTo.whole w #[.int .i64 10, .string key, .string val] 41).alloc _
 have hzs : ((w.alloc (.cells #[.int .i64 10, .string key, .string val] 41)).alloc (.cells #[.int .i64 0, .string ⟨#[]⟩, .int .i64 0] 46)).heap.size = w.heap.size + 1 + 1 := by simp
 have hkey := klKey (s := key) (by omega)
 have hii : (i : Int) < (W.ss.length : Int) := by omega
 have H := jD h
 have H0 := jD h0
 have HZ := jD hz
 have HW := jD hw
 have B0 := jD b0
 have HX0 := jD X0
 have HY0 := jD Y0
 have HZS := jD hzs
 clear h h0 hz hw b0 X0 Y0 hzs hpr
 go_enter Tryz.func71, Tryz.ntmps71
 go_wp2_with fail
 refine (HCW.out _ (H0.out.wld HZ.out)).mono ?_
 rintro e w1 ⟨bm, n, M, rfl, hown, hmap, hn, hbm, hb1⟩
 have hs1 := hb1.size
 have H1 := jD (H0.out.kept hb1)
 have B1 := jD (bel_add' B0.out hb1 B0.out.size)
 have X1 := jD (HX0.out.below hb1 HX0.out.lt)
 have Y1 := HY0.out.below hb1 HY0.out.lt
 have q1 := Y1.cell (j := 1) (by simp)
 simp only [gCZ, gCS] at q1
 have HY1 := jD Y1
 have HO := jD hown
 have HM := jD hmap
 have HAT := jD (hmap.at_ key)
 have hhas : Maps.has M (kl key) = fndL (allL W) key := hmap.has key
 have hsize : Maps.size M = (allL W).length := hmap.size
 rw [HZS.out] at hs1
 have hbm' : w.heap.size + 1 + 1 ≤ bm := by rw [HZS.out] at hbm; exact hbm
 clear hown hmap hb1 Y1 x0 x1 hbm
 have g1 : decide ((0 : Int) < (cntL (W.ss.flatMap (·.wr)) key : Int)) = true := decide_eq_true (by have := HPOS.out; omega)
 have g2 : decide (0 < cntL (W.ss.flatMap (·.wr)) key) = true := decide_eq_true HPOS.out
 rw [hfn] at hhas
 go_wp2_with (first
  | (at_lookup; refine wpList_lookup_own_ok_int _ rfl _ _ 162 rfl 9 3 .i64 strLaw Tryz.underlying162 Tryz.underlying3 (zeroInt _) bm n _ rfl HO.out _ _ rfl hkey ?_; intro q hat hwq; obtain rfl : q = (cntL (W.ss.flatMap (·.wr)) key : Int) := (lit_inj (HAT.out.symm.trans hat)).symm; clear hat hwq)
  | go_in)
 have q4 : w1.cell? ⟨S, i * 5 + 4, none⟩ = some (.slice (some ⟨G i 3, 0, none⟩) W.ss[i].wr.length (C i 3)) := H1.out.cs i 3 hi (by omega)
 have hl4 := jD (show Lst w1 w1.heap.size (.slice (some ⟨G i 3, 0, none⟩) W.ss[i].wr.length (C i 3)) W.ss[i].wr from H1.out.list HZ.out hi (j := 3) (by omega))
 have hz0 : w.heap.size < w1.heap.size := by omega
 have hz1 : S < w1.heap.size := H1.out.blk.lt
 have kb := Below.refl w1.heap.size w1
 have dS := jD (show w1.drew.cell? ⟨S, i * 5 + 4, none⟩ = some (.slice (some ⟨G i 3, 0, none⟩) W.ss[i].wr.length (C i 3)) ∧ w1.drew.cell? ⟨w.heap.size, 1, none⟩ = some (.string key) from ⟨q4, q1⟩)
 go_region_held3 (fun wx => wx.cell? ⟨S, i * 5 + 4, none⟩ = some (.slice (some ⟨G i 3, 0, none⟩) W.ss[i].wr.length (C i 3)) ∧ wx.cell? ⟨w.heap.size, 1, none⟩ = some (.string key))
  (first
   | with_reducible exact ⟨q4, q1⟩
   | with_reducible exact dS.out
   | with_reducible exact ⟨(kb.cell (p := ⟨S, i * 5 + 4, none⟩) hz1).trans q4, (kb.cell (p := ⟨w.heap.size, 1, none⟩) hz0).trans q1⟩)
  (first
   | (
    go_at_call 95
    refine (place_any _ W.ss[i].wr key _ (by first | exact hl4.out | exact (hl4.out.step ((Below.refl _ _).drew)) | exact (hl4.out.step (below_drewN (Below.refl _ _) _))) HWR.out).mono ?_
    rw [HOWN.out]
    rintro e w8 ⟨rfl, hy⟩
    have kb : Below w1.heap.size w1 w8 := by first | exact kb.trans (hy.mono kb.size) | exact kb.trans ⟨hy.os, hy.tape, hy.output, hy.size, fun i hi => hy.block i (Nat.lt_of_lt_of_le hi kb.size)⟩))
 have hs8 := kb.size
 have H8 := jD (H1.out.kept kb)
 have B8 := jD (bel_add' B1.out kb B1.out.size)
 have X8 := jD (X1.out.below kb X1.out.lt)
 have Y8 := jD (HY1.out.below kb HY1.out.lt)
 have O8 := jD (HO.out.kept (grown_of_below kb none) (by simp))
 clear kb q1 q4 dS
 have c0 := H8.out.st i hi
 rw [hst] at c0
 have pc : w8.cell? ⟨S, i * 5 + 4, none⟩ = some (.slice (some ⟨G i 3, 0, none⟩) W.ss[i].wr.length (C i 3)) := H8.out.cs i 3 hi (by omega)
 have pf := H8.out.blk.frozen (i * 5 + 4)
 have hneg : S ≠ G i 3 := Ne.symm (H8.out.neGS i 3 hi (by omega))
 have hgw : G i 3 < w.heap.size := (H.out.ls i 3 hi (by omega)).row.lt
 have hpw : S < w.heap.size := hSw
 have HSTORE := jD (fun (w9 : World) (ho9 : OwnL w9 (G i 3) (C i 3) W.ss[i].wr) (hp9 : w9.cell? ⟨S, i * 5 + 4, none⟩ = some (.slice (some ⟨G i 3, 0, none⟩) W.ss[i].wr.length (C i 3))) (hf9 : w9.frozen? ⟨S, i * 5 + 4, none⟩ = false) => store_ok (G i 3) (C i 3) S (i * 5 + 4) W.ss[i].wr 10 key val 100 w9 ho9 HWR.out (by have := (HZ.out.li i 3 hi (by omega)).1; have e : (W.ss[i].li 3).length = W.ss[i].wr.length := rfl; omega) ((HZ.out.li i 3 hi (by omega)).sz) hp9 hf9 hneg (by omega) (by omega) HROOM.out)
 have O9 := jD (show OwnL w8 (G i 3) (C i 3) W.ss[i].wr from H8.out.ls i 3 hi (by omega))
 have PC := jD (And.intro pc pf)
 have hw8 : w.heap.size < w8.heap.size := by omega
 have hR8 : w.heap.size + 1 < w8.heap.size := by omega
 have y0 := Y8.out.cell (j := 0) (by simp)
 have y1 := Y8.out.cell (j := 1) (by simp)
 have y2 := Y8.out.cell (j := 2) (by simp)
 simp only [gCZ, gCS] at y0 y1 y2
 clear pc pf
 go_wp2
 have dS := jD (show w8.drew.cell? ⟨w.heap.size, 0, none⟩ = some (.int .i64 10) ∧ w8.drew.cell? ⟨w.heap.size, 1, none⟩ = some (.string key) ∧ w8.drew.cell? ⟨w.heap.size, 2, none⟩ = some (.string val) from ⟨y0, y1, y2⟩)
 have hne1 : w.heap.size ≠ G i 3 := by omega
 have hne2 : w.heap.size ≠ S := by omega
 have hne3 : w.heap.size + 1 ≠ G i 3 := by omega
 have hne4 : w.heap.size + 1 ≠ S := by omega
 go_region_held3 (fun wx => wx.cell? ⟨w.heap.size, 0, none⟩ = some (.int .i64 10) ∧ wx.cell? ⟨w.heap.size, 1, none⟩ = some (.string key) ∧ wx.cell? ⟨w.heap.size, 2, none⟩ = some (.string val))
  (first
   | with_reducible exact ⟨y0, y1, y2⟩
   | with_reducible exact dS.out
   | with_reducible exact ⟨cell_set3' z0 (by omega), cell_set3' z1 (by omega), cell_set3' z2 (by omega)⟩
   | with_reducible exact ⟨z0, z1, z2⟩)
  (first
   | (
    go_at_call 70
    refine (HSTORE.out _ (by first | exact O9.out | exact O9.out.same rfl) (by first | exact PC.out.1 | assumption) (by first | exact PC.out.2 | assumption)).mono ?_
    rintro e wB ⟨g', c', rfl, ho', hl', hc⟩
    have hcB : Chg w8 wB (G i 3) S (i * 5 + 4) (.slice (some ⟨g', 0, none⟩) (insL W.ss[i].wr key val).length c') := ⟨hc.os, hc.tape, hc.output, hc.size, hc.other, hc.here⟩
    have hlB : g' = G i 3 ∨ w8.heap.size ≤ g' := hl'
    have z0 := (World.cell?_of_block (a := ⟨w.heap.size, 0, none⟩) (hcB.other _ hw8 hne1 hne2)).trans y0
    have z1 := (World.cell?_of_block (a := ⟨w.heap.size, 1, none⟩) (hcB.other _ hw8 hne1 hne2)).trans y1
    have z2 := (World.cell?_of_block (a := ⟨w.heap.size, 2, none⟩) (hcB.other _ hw8 hne1 hne2)).trans y2
    have RB := X8.out.same (hcB.other _ hR8 hne3 hne4)
    have r0 := RB.cell (j := 0) (by simp)
    have r1 := RB.cell (j := 1) (by simp)
    have r2 := RB.cell (j := 2) (by simp)
    have s0 := RB.frozen 0
    have s1 := RB.frozen 1
    have s2 := RB.frozen 2
    simp only [gCZ, gCS] at r0 r1 r2
    unfold ansV))
 have HZ8 := jD (And.intro ho' (And.intro hlB hcB))
 clear ho' hlB hcB hl' hc RB z0 z1 z2
 go_wp2
 refine bodyPost_ret (v := .agg #[.int .i64 1, .string ⟨#[]⟩, .int .i64 0]) (by simp [results, Tryz.results71, go_sem, r0, r1, r2]) rfl ?_
 obtain ⟨a1, a2, a3⟩ := HZ8.out
 have ch := (((a3.pull B8.out hpw).setN (p := ⟨w.heap.size + 1, 0, none⟩) (by simp) hpw (.int .i64 1)).setN (p := ⟨w.heap.size + 1, 1, none⟩) (by simp) hpw (.string ⟨#[]⟩)).setN (p := ⟨w.heap.size + 1, 2, none⟩) (by simp) hpw (.int .i64 0)
 have hgR : w.heap.size + 1 ≠ g' := by rcases a2 with hh | hh <;> omega
 have oF : OwnL (((wB.setCell ⟨w.heap.size + 1, 0, none⟩ (.int .i64 1)).setCell ⟨w.heap.size + 1, 1, none⟩ (.string ⟨#[]⟩)).setCell ⟨w.heap.size + 1, 2, none⟩ (.int .i64 0)) g' c' (insL W.ss[i].wr key val) := ⟨((a1.row.other hgR _).other hgR _).other hgR _, a1.len, a1.most⟩
 have hlg : base ≤ g' := by have q1 := lo.g i 3 hi (by omega); rcases a2 with hh | hh <;> omega
 refine ⟨rfl, H.out.stored lo hlg HZ.out hi (j := 3) (by omega) (by have h1 := plusL_len W.ss[i].wr key val; rw [plus_ins HWR.out] at h1; have := (HZ.out.li i 3 hi (by omega)).1; have e : (W.ss[i].li 3).length = W.ss[i].wr.length := rfl; show (insL W.ss[i].wr key val).length ≤ 1000; omega) (((HZ.out.li i 3 hi (by omega)).sz).ins (by omega) (by omega)) oF ch rfl (fun k hk => ?_), ch.bel (lo.g i 3 hi (by omega)) lo.s hb, fun b hb _ h2 _ h4 => ch.other b hb (h4 i 3 hi (by omega)) h2⟩
 rcases j4 hk with rfl | rfl | rfl | rfl <;> rfl
end Go.Proofs.YtpbaobmegomfpabGreatDoor
