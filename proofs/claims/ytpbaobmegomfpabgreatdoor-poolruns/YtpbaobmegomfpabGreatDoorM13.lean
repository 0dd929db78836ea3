/-
  Texts of the proof, one behind the other: BExe.
-/
import Derived.Test.YtpbaobmegomfpabGreatDoorM11
import Derived.Test.YtpbaobmegomfpabGreatDoorM12
set_option linter.unusedVariables false
set_option linter.unusedSimpArgs false
set_option maxRecDepth 100000
open List renaming getElem_toArray → gTA, getElem_cons_zero → gCZ, getElem_cons_succ → gCS, setIfInBounds_toArray → sTA, set_cons_zero → sCZ, set_cons_succ → sCS
open Go.Lib renaming hid → jD
open Nat renaming le_refl → nL
namespace Go.Proofs.YtpbaobmegomfpabGreatDoor
open Go.RowKit
theorem begin_any (base X S gR cR : Nat) (G C : Nat → Nat → Nat) (W : Wd) (i : Nat) (w : World) (h : OwnD w X S gR cR G C W) (lo : LoD base X S gR G W.ss.length) (hz : SzW W) (hb : base ≤ w.heap.size) (hi : i < W.ss.length) (hst : W.ss[i].st ≠ 2) (key val : ByteArray) :
  Calls Tryz.prog 65 #[.pointer (some ⟨S, i * 5, none⟩)] w (ExPost w base X S gR G W.ss.length (did1 W i 1 key val)) := by
 have hd : did1 W i 1 key val = (if W.ss[i].st = 0 then (W.put i { W.ss[i] with st := 1, sav := W.ss[i].set }, ok') else (W, no' tBegun)) := by
  unfold did1
  simp only [getD_at hi]
  rw [if_neg (fun hh => hst hh.1)]
  simp
 rw [hd]
 by_cases h0 : W.ss[i].st = 0
 ·rw [if_pos h0]
  exact (begin_ok base X S gR cR G C W i w h lo hz hb hi h0).mono fun e w' hh => ExPost.done hh
 ·rw [if_neg h0]
  exact (begin_no w _ _ (h.st i hi) h0).mono fun e w' hh => ExPost.same h lo hz hb hh.1 hh.2
theorem reset_any (base X S gR cR : Nat) (G C : Nat → Nat → Nat) (W : Wd) (i : Nat) (w : World) (h : OwnD w X S gR cR G C W) (lo : LoD base X S gR G W.ss.length) (hz : SzW W) (hb : base ≤ w.heap.size) (hi : i < W.ss.length) (hst : W.ss[i].st ≠ 2) (key val : ByteArray) :
  Calls Tryz.prog 67 #[.pointer (some ⟨S, i * 5, none⟩)] w (ExPost w base X S gR G W.ss.length (did1 W i 4 key val)) := by
 have hd : did1 W i 4 key val = (if W.ss[i].st = 0 then (W.put i { W.ss[i] with set := [], prep := [] }, ok') else (W, no' tNotIn)) := by
  unfold did1
  simp only [getD_at hi]
  rw [if_neg (fun hh => hst hh.1)]
  simp
 rw [hd]
 by_cases h0 : W.ss[i].st = 0
 ·rw [if_pos h0]
  exact (reset_ok base X S gR cR G C W i w h lo hz hb hi h0).mono fun e w' hh => ExPost.done hh
 ·rw [if_neg h0]
  exact (reset_no w _ _ (h.st i hi) h0).mono fun e w' hh => ExPost.same h lo hz hb hh.1 hh.2
theorem end_any (base X S gR cR : Nat) (G C : Nat → Nat → Nat) (W : Wd) (i : Nat) (w : World) (h : OwnD w X S gR cR G C W) (lo : LoD base X S gR G W.ss.length) (hz : SzW W) (hr : risingB W.rows = true) (hb : base ≤ w.heap.size) (hi : i < W.ss.length) (k : Int) (hk : k = 2 ∨ k = 3) (key val : ByteArray) :
  Calls Tryz.prog 66 #[.pointer (some ⟨X, 0, none⟩), .pointer (some ⟨S, i * 5, none⟩), .int .i64 k] w (ExPost w base X S gR G W.ss.length (did1 W i k key val)) := by
 have hd : did1 W i k key val = (if W.ss[i].st = 0 then (W, no' tNoTx)
  else if k = 2 ∧ W.ss[i].st = 1 then (⟨plusF W.rows W.ss[i].wr, W.ss.set i { W.ss[i] with st := 0, sav := [], wr := [] }⟩, ok')
  else (W.put i { W.ss[i] with st := 0, set := W.ss[i].sav, sav := [], wr := [] }, ok')) := by
  unfold did1
  simp only [getD_at hi]
  rw [if_neg (fun hh => hh.2 hk), if_neg (by omega), if_pos hk]
 rw [hd]
 by_cases h0 : W.ss[i].st = 0
 ·rw [if_pos h0]
  have c0 := h.st i hi
  rw [h0] at c0
  exact (end_no w _ _ k c0).mono fun e w' hh => ExPost.same h lo hz hb hh.1 hh.2
 rw [if_neg h0]
 by_cases h1 : k = 2 ∧ W.ss[i].st = 1
 ·rw [if_pos h1]
  rw [h1.1]
  exact (end_commit base X S gR cR G C W i w h lo hz hr hb hi h1.2).mono fun e w' hh => ExPost.done hh
 ·rw [if_neg h1]
  exact (end_back base X S gR cR G C W i k w h lo hz hb hi h0 h1).mono fun e w' hh => ExPost.done hh
theorem keep_any (base X S gR cR : Nat) (G C : Nat → Nat → Nat) (W : Wd) (i j : Nat) (k : Int) (w : World) (h : OwnD w X S gR cR G C W) (lo : LoD base X S gR G W.ss.length) (hz : SzW W) (hb : base ≤ w.heap.size) (hi : i < W.ss.length) (hj : j < 4) (key val : ByteArray) (hkz : key.size ≤ 8) (hvz : val.size ≤ 60) (hr : risingB (W.ss[i].li j) = true) (s' : Sess)
  (hs : s'.st = W.ss[i].st) (hl : ∀ k, k < 4 → s'.li k = if k = j then insL (W.ss[i].li j) key val else W.ss[i].li k) :
  Calls Tryz.prog 70 #[.pointer (some ⟨S, i * 5 + (j + 1), none⟩), .agg #[.int .i64 k, .string key, .string val], .int .i64 6] w (ExPost w base X S gR G W.ss.length (if fndL (W.ss[i].li j) key = false ∧ 6 ≤ (W.ss[i].li j).length then (W, no' tFull) else (W.put i s', ok'))) := by
 have ho := h.ls i j hi hj
 have hn := (hz.li i j hi hj).1
 have hsz := (hz.li i j hi hj).sz
 have hp := h.cs i j hi hj
 have hpf := h.blk.frozen (i * 5 + (j + 1))
 have hne : S ≠ G i j := Ne.symm (h.neGS i j hi hj)
 by_cases h0 : fndL (W.ss[i].li j) key = false ∧ 6 ≤ (W.ss[i].li j).length
 ·rw [if_pos h0]
  exact (store_full (G i j) (C i j) S _ (W.ss[i].li j) k key val 6 w ho hr (by omega) hsz hp h0.1 h0.2).mono fun e w' hh => ExPost.same h lo hz hb hh.1 hh.2
 ·rw [if_neg h0]
  refine (store_ok (G i j) (C i j) S (i * 5 + (j + 1)) (W.ss[i].li j) k key val 6 w ho hr (by omega) hsz hp hpf hne (by omega) (by omega) ?_).mono ?_
  ·cases e : fndL (W.ss[i].li j) key
   ·right
    rcases Nat.lt_or_ge (W.ss[i].li j).length 6 with hh | hh
    ·exact hh
    ·exact absurd ⟨e, hh⟩ h0
   ·exact .inl rfl
  ·rintro e w' ⟨g', c', rfl, ho', hl', hc⟩
   refine ⟨rfl, h.stored lo (by have q1 := lo.g i j hi hj; rcases hl' with hh | hh <;> omega) hz hi hj (by have h1 := plusL_len (W.ss[i].li j) key val; rw [plus_ins hr] at h1; omega) (hsz.ins (by omega) (by omega)) ho' hc hs hl, hc.bel (lo.g i j hi hj) lo.s hb, fun b hb _ h2 _ h4 => hc.other b hb (h4 i j hi hj) h2⟩
set_option maxHeartbeats 2000000 in
theorem execute_begin (base X S gR cR : Nat) (G C : Nat → Nat → Nat) (W : Wd) (i : Nat) (key val : ByteArray) (w : World) (h : OwnD w X S gR cR G C W) (lo : LoD base X S gR G W.ss.length) (hw : WorldOk W) (hb : base ≤ w.heap.size) (hi : i < W.ss.length) (hkz : key.size ≤ 8) (hvz : val.size ≤ 60) (hst : W.ss[i].st ≠ 2) :
  Calls Tryz.prog 45 #[.pointer (some ⟨X, 0, none⟩), .int .i64 i, .agg #[.int .i64 1, .string key, .string val]] w (ExPost w base X S gR G W.ss.length (did1 W i 1 key val)) := by
 have hz := worldOk_sz hw
 have hXw := h.box.lt
 have hSw := h.blk.lt
 have x1 := h.box.cell (j := 1) (by simp)
 simp only [gCZ, gCS] at x1
 unfold slc at x1
 have c0 := h.st i hi
 have hii : (i : Int) < (W.ss.length : Int) := by omega
 have b0 : Below w.heap.size w ((w.alloc (.cells #[.int .i64 1, .string key, .string val] 41)).alloc (.cells #[.int .i64 0, .string ⟨#[]⟩, .int .i64 0] 46)) := ((Below.refl _ _).alloc (nL _) _).alloc (by simp) _
 have h0 := h.kept b0
 have X0 : RowTo ((w.alloc (.cells #[.int .i64 1, .string key, .string val] 41)).alloc (.cells #[.int .i64 0, .string ⟨#[]⟩, .int .i64 0] 46)) (w.heap.size + 1) 46 3 [.int .i64 0, .string ⟨#[]⟩, .int .i64 0] := by
  have := RowTo.whole (w.alloc (.cells #[.int .i64 1, .string key, .string val] 41)) #[.int .i64 0, .string ⟨#[]⟩, .int .i64 0] 46
  simpa using this
 have hzs : ((w.alloc (.cells #[.int .i64 1, .string key, .string val] 41)).alloc (.cells #[.int .i64 0, .string ⟨#[]⟩, .int .i64 0] 46)).heap.size = w.heap.size + 1 + 1 := by simp
 have hgr := h.rows.row.lt
 have hgg : ∀ i j, i < W.ss.length → j < 4 → w.heap.size + 1 ≠ G i j := fun i j hi hj => by have := (h.ls i j hi hj).row.lt; omega
 obtain ⟨r, hr⟩ : ∃ r, r = did1 W i 1 key val := ⟨_, rfl⟩
 rw [← hr]
 have hbs : base ≤ ((w.alloc (.cells #[.int .i64 1, .string key, .string val] 41)).alloc (.cells #[.int .i64 0, .string ⟨#[]⟩, .int .i64 0] 46)).heap.size := by omega
 have HC := jD (show Calls Tryz.prog 65 #[.pointer (some ⟨S, i * 5, none⟩)] ((w.alloc (.cells #[.int .i64 1, .string key, .string val] 41)).alloc (.cells #[.int .i64 0, .string ⟨#[]⟩, .int .i64 0] 46)) (ExPost ((w.alloc (.cells #[.int .i64 1, .string key, .string val] 41)).alloc (.cells #[.int .i64 0, .string ⟨#[]⟩, .int .i64 0] 46)) base X S gR G W.ss.length r) by
  rw [hr]
  exact begin_any base X S gR cR G C W i _ h0 lo hz hbs hi hst key val)
 have H := jD h
 have HZ := jD hz
 have HW := jD hw
 have B0 := jD b0
 have HX0 := jD X0
 have HZS := jD hzs
 have HG := jD hgg
 have HR := jD hr
 clear h hz hw b0 X0 hzs hgg hr h0 hbs
 have e2 : (W.ss[i].st == 2) = false := beq_eq_false_iff_ne.2 hst
 ·skip
  go_enter Tryz.func45, Tryz.ntmps45
  go_wp2_with fail
  refine HC.out.mono ?_
  rintro e wB hp
  obtain rfl := hp.1
  have RB := HX0.out.same (hp.2.2.2 (w.heap.size + 1) (by rw [HZS.out]; omega) (by omega) (by omega) (by omega) HG.out)
  have HP := jD hp
  have r0 := RB.cell (j := 0) (by simp)
  have r1 := RB.cell (j := 1) (by simp)
  have r2 := RB.cell (j := 2) (by simp)
  have s0 := RB.frozen 0
  have s1 := RB.frozen 1
  have s2 := RB.frozen 2
  simp only [gCZ, gCS] at r0 r1 r2
  have HRB := jD RB
  clear hp RB
  unfold ansV
  go_wp2
  refine bodyPost_ret (v := .agg #[.int .i64 r.2.kind, .string r.2.text, .int .i64 0]) (by simp [results, Tryz.results45, go_sem, r0, r1, r2]) rfl ?_
  exact HP.out.laid B0.out hb (by omega) HRB.out _ _ _
set_option maxHeartbeats 2000000 in
theorem execute_commit (base X S gR cR : Nat) (G C : Nat → Nat → Nat) (W : Wd) (i : Nat) (key val : ByteArray) (w : World) (h : OwnD w X S gR cR G C W) (lo : LoD base X S gR G W.ss.length) (hw : WorldOk W) (hb : base ≤ w.heap.size) (hi : i < W.ss.length) (hkz : key.size ≤ 8) (hvz : val.size ≤ 60) :
  Calls Tryz.prog 45 #[.pointer (some ⟨X, 0, none⟩), .int .i64 i, .agg #[.int .i64 2, .string key, .string val]] w (ExPost w base X S gR G W.ss.length (did1 W i 2 key val)) := by
 have hz := worldOk_sz hw
 have hXw := h.box.lt
 have hSw := h.blk.lt
 have x1 := h.box.cell (j := 1) (by simp)
 simp only [gCZ, gCS] at x1
 unfold slc at x1
 have c0 := h.st i hi
 have hii : (i : Int) < (W.ss.length : Int) := by omega
 have b0 : Below w.heap.size w ((w.alloc (.cells #[.int .i64 2, .string key, .string val] 41)).alloc (.cells #[.int .i64 0, .string ⟨#[]⟩, .int .i64 0] 46)) := ((Below.refl _ _).alloc (nL _) _).alloc (by simp) _
 have h0 := h.kept b0
 have X0 : RowTo ((w.alloc (.cells #[.int .i64 2, .string key, .string val] 41)).alloc (.cells #[.int .i64 0, .string ⟨#[]⟩, .int .i64 0] 46)) (w.heap.size + 1) 46 3 [.int .i64 0, .string ⟨#[]⟩, .int .i64 0] := by
  have := RowTo.whole (w.alloc (.cells #[.int .i64 2, .string key, .string val] 41)) #[.int .i64 0, .string ⟨#[]⟩, .int .i64 0] 46
  simpa using this
 have hzs : ((w.alloc (.cells #[.int .i64 2, .string key, .string val] 41)).alloc (.cells #[.int .i64 0, .string ⟨#[]⟩, .int .i64 0] 46)).heap.size = w.heap.size + 1 + 1 := by simp
 have hgr := h.rows.row.lt
 have hgg : ∀ i j, i < W.ss.length → j < 4 → w.heap.size + 1 ≠ G i j := fun i j hi hj => by have := (h.ls i j hi hj).row.lt; omega
 obtain ⟨r, hr⟩ : ∃ r, r = did1 W i 2 key val := ⟨_, rfl⟩
 rw [← hr]
 have hbs : base ≤ ((w.alloc (.cells #[.int .i64 2, .string key, .string val] 41)).alloc (.cells #[.int .i64 0, .string ⟨#[]⟩, .int .i64 0] 46)).heap.size := by omega
 have HC := jD (show Calls Tryz.prog 66 #[.pointer (some ⟨X, 0, none⟩), .pointer (some ⟨S, i * 5, none⟩), .int .i64 2] ((w.alloc (.cells #[.int .i64 2, .string key, .string val] 41)).alloc (.cells #[.int .i64 0, .string ⟨#[]⟩, .int .i64 0] 46)) (ExPost ((w.alloc (.cells #[.int .i64 2, .string key, .string val] 41)).alloc (.cells #[.int .i64 0, .string ⟨#[]⟩, .int .i64 0] 46)) base X S gR G W.ss.length r) by
  rw [hr]
  exact end_any base X S gR cR G C W i _ h0 lo hz (pairsB_rising hw.rows).1 hbs hi 2 (.inl rfl) key val)
 have H := jD h
 have HZ := jD hz
 have HW := jD hw
 have B0 := jD b0
 have HX0 := jD X0
 have HZS := jD hzs
 have HG := jD hgg
 have HR := jD hr
 clear h hz hw b0 X0 hzs hgg hr h0 hbs
 cases e2 : (W.ss[i].st == 2)
 all_goals
  go_enter Tryz.func45, Tryz.ntmps45
  go_wp2_with fail
  refine HC.out.mono ?_
  rintro e wB hp
  obtain rfl := hp.1
  have RB := HX0.out.same (hp.2.2.2 (w.heap.size + 1) (by rw [HZS.out]; omega) (by omega) (by omega) (by omega) HG.out)
  have HP := jD hp
  have r0 := RB.cell (j := 0) (by simp)
  have r1 := RB.cell (j := 1) (by simp)
  have r2 := RB.cell (j := 2) (by simp)
  have s0 := RB.frozen 0
  have s1 := RB.frozen 1
  have s2 := RB.frozen 2
  simp only [gCZ, gCS] at r0 r1 r2
  have HRB := jD RB
  clear hp RB
  unfold ansV
  go_wp2
  refine bodyPost_ret (v := .agg #[.int .i64 r.2.kind, .string r.2.text, .int .i64 0]) (by simp [results, Tryz.results45, go_sem, r0, r1, r2]) rfl ?_
  exact HP.out.laid B0.out hb (by omega) HRB.out _ _ _
set_option maxHeartbeats 2000000 in
theorem execute_rollback (base X S gR cR : Nat) (G C : Nat → Nat → Nat) (W : Wd) (i : Nat) (key val : ByteArray) (w : World) (h : OwnD w X S gR cR G C W) (lo : LoD base X S gR G W.ss.length) (hw : WorldOk W) (hb : base ≤ w.heap.size) (hi : i < W.ss.length) (hkz : key.size ≤ 8) (hvz : val.size ≤ 60) :
  Calls Tryz.prog 45 #[.pointer (some ⟨X, 0, none⟩), .int .i64 i, .agg #[.int .i64 3, .string key, .string val]] w (ExPost w base X S gR G W.ss.length (did1 W i 3 key val)) := by
 have hz := worldOk_sz hw
 have hXw := h.box.lt
 have hSw := h.blk.lt
 have x1 := h.box.cell (j := 1) (by simp)
 simp only [gCZ, gCS] at x1
 unfold slc at x1
 have c0 := h.st i hi
 have hii : (i : Int) < (W.ss.length : Int) := by omega
 have b0 : Below w.heap.size w ((w.alloc (.cells #[.int .i64 3, .string key, .string val] 41)).alloc (.cells #[.int .i64 0, .string ⟨#[]⟩, .int .i64 0] 46)) := ((Below.refl _ _).alloc (nL _) _).alloc (by simp) _
 have h0 := h.kept b0
 have X0 : RowTo ((w.alloc (.cells #[.int .i64 3, .string key, .string val] 41)).alloc (.cells #[.int .i64 0, .string ⟨#[]⟩, .int .i64 0] 46)) (w.heap.size + 1) 46 3 [.int .i64 0, .string ⟨#[]⟩, .int .i64 0] := by
  have := RowTo.whole (w.alloc (.cells #[.int .i64 3, .string key, .string val] 41)) #[.int .i64 0, .string ⟨#[]⟩, .int .i64 0] 46
  simpa using this
 have hzs : ((w.alloc (.cells #[.int .i64 3, .string key, .string val] 41)).alloc (.cells #[.int .i64 0, .string ⟨#[]⟩, .int .i64 0] 46)).heap.size = w.heap.size + 1 + 1 := by simp
 have hgr := h.rows.row.lt
 have hgg : ∀ i j, i < W.ss.length → j < 4 → w.heap.size + 1 ≠ G i j := fun i j hi hj => by have := (h.ls i j hi hj).row.lt; omega
 obtain ⟨r, hr⟩ : ∃ r, r = did1 W i 3 key val := ⟨_, rfl⟩
 rw [← hr]
 have hbs : base ≤ ((w.alloc (.cells #[.int .i64 3, .string key, .string val] 41)).alloc (.cells #[.int .i64 0, .string ⟨#[]⟩, .int .i64 0] 46)).heap.size := by omega
 have HC := jD (show Calls Tryz.prog 66 #[.pointer (some ⟨X, 0, none⟩), .pointer (some ⟨S, i * 5, none⟩), .int .i64 3] ((w.alloc (.cells #[.int .i64 3, .string key, .string val] 41)).alloc (.cells #[.int .i64 0, .string ⟨#[]⟩, .int .i64 0] 46)) (ExPost ((w.alloc (.cells #[.int .i64 3, .string key, .string val] 41)).alloc (.cells #[.int .i64 0, .string ⟨#[]⟩, .int .i64 0] 46)) base X S gR G W.ss.length r) by
  rw [hr]
  exact end_any base X S gR cR G C W i _ h0 lo hz (pairsB_rising hw.rows).1 hbs hi 3 (.inr rfl) key val)
 have H := jD h
 have HZ := jD hz
 have HW := jD hw
 have B0 := jD b0
 have HX0 := jD X0
 have HZS := jD hzs
 have HG := jD hgg
 have HR := jD hr
 clear h hz hw b0 X0 hzs hgg hr h0 hbs
 cases e2 : (W.ss[i].st == 2)
 all_goals
  go_enter Tryz.func45, Tryz.ntmps45
  go_wp2_with fail
  refine HC.out.mono ?_
  rintro e wB hp
  obtain rfl := hp.1
  have RB := HX0.out.same (hp.2.2.2 (w.heap.size + 1) (by rw [HZS.out]; omega) (by omega) (by omega) (by omega) HG.out)
  have HP := jD hp
  have r0 := RB.cell (j := 0) (by simp)
  have r1 := RB.cell (j := 1) (by simp)
  have r2 := RB.cell (j := 2) (by simp)
  have s0 := RB.frozen 0
  have s1 := RB.frozen 1
  have s2 := RB.frozen 2
  simp only [gCZ, gCS] at r0 r1 r2
  have HRB := jD RB
  clear hp RB
  unfold ansV
  go_wp2
  refine bodyPost_ret (v := .agg #[.int .i64 r.2.kind, .string r.2.text, .int .i64 0]) (by simp [results, Tryz.results45, go_sem, r0, r1, r2]) rfl ?_
  exact HP.out.laid B0.out hb (by omega) HRB.out _ _ _
set_option maxHeartbeats 2000000 in
theorem execute_reset (base X S gR cR : Nat) (G C : Nat → Nat → Nat) (W : Wd) (i : Nat) (key val : ByteArray) (w : World) (h : OwnD w X S gR cR G C W) (lo : LoD base X S gR G W.ss.length) (hw : WorldOk W) (hb : base ≤ w.heap.size) (hi : i < W.ss.length) (hkz : key.size ≤ 8) (hvz : val.size ≤ 60) (hst : W.ss[i].st ≠ 2) :
  Calls Tryz.prog 45 #[.pointer (some ⟨X, 0, none⟩), .int .i64 i, .agg #[.int .i64 4, .string key, .string val]] w (ExPost w base X S gR G W.ss.length (did1 W i 4 key val)) := by
 have hz := worldOk_sz hw
 have hXw := h.box.lt
 have hSw := h.blk.lt
 have x1 := h.box.cell (j := 1) (by simp)
 simp only [gCZ, gCS] at x1
 unfold slc at x1
 have c0 := h.st i hi
 have hii : (i : Int) < (W.ss.length : Int) := by omega
 have b0 : Below w.heap.size w ((w.alloc (.cells #[.int .i64 4, .string key, .string val] 41)).alloc (.cells #[.int .i64 0, .string ⟨#[]⟩, .int .i64 0] 46)) := ((Below.refl _ _).alloc (nL _) _).alloc (by simp) _
 have h0 := h.kept b0
 have X0 : RowTo ((w.alloc (.cells #[.int .i64 4, .string key, .string val] 41)).alloc (.cells #[.int .i64 0, .string ⟨#[]⟩, .int .i64 0] 46)) (w.heap.size + 1) 46 3 [.int .i64 0, .string ⟨#[]⟩, .int .i64 0] := by
  have := RowTo.whole (w.alloc (.cells #[.int .i64 4, .string key, .string val] 41)) #[.int .i64 0, .string ⟨#[]⟩, .int .i64 0] 46
  simpa using this
 have hzs : ((w.alloc (.cells #[.int .i64 4, .string key, .string val] 41)).alloc (.cells #[.int .i64 0, .string ⟨#[]⟩, .int .i64 0] 46)).heap.size = w.heap.size + 1 + 1 := by simp
 have hgr := h.rows.row.lt
 have hgg : ∀ i j, i < W.ss.length → j < 4 → w.heap.size + 1 ≠ G i j := fun i j hi hj => by have := (h.ls i j hi hj).row.lt; omega
 obtain ⟨r, hr⟩ : ∃ r, r = did1 W i 4 key val := ⟨_, rfl⟩
 rw [← hr]
 have hbs : base ≤ ((w.alloc (.cells #[.int .i64 4, .string key, .string val] 41)).alloc (.cells #[.int .i64 0, .string ⟨#[]⟩, .int .i64 0] 46)).heap.size := by omega
 have HC := jD (show Calls Tryz.prog 67 #[.pointer (some ⟨S, i * 5, none⟩)] ((w.alloc (.cells #[.int .i64 4, .string key, .string val] 41)).alloc (.cells #[.int .i64 0, .string ⟨#[]⟩, .int .i64 0] 46)) (ExPost ((w.alloc (.cells #[.int .i64 4, .string key, .string val] 41)).alloc (.cells #[.int .i64 0, .string ⟨#[]⟩, .int .i64 0] 46)) base X S gR G W.ss.length r) by
  rw [hr]
  exact reset_any base X S gR cR G C W i _ h0 lo hz hbs hi hst key val)
 have H := jD h
 have HZ := jD hz
 have HW := jD hw
 have B0 := jD b0
 have HX0 := jD X0
 have HZS := jD hzs
 have HG := jD hgg
 have HR := jD hr
 clear h hz hw b0 X0 hzs hgg hr h0 hbs
 have e2 : (W.ss[i].st == 2) = false := beq_eq_false_iff_ne.2 hst
 ·skip
  go_enter Tryz.func45, Tryz.ntmps45
  go_wp2_with fail
  refine HC.out.mono ?_
  rintro e wB hp
  obtain rfl := hp.1
  have RB := HX0.out.same (hp.2.2.2 (w.heap.size + 1) (by rw [HZS.out]; omega) (by omega) (by omega) (by omega) HG.out)
  have HP := jD hp
  have r0 := RB.cell (j := 0) (by simp)
  have r1 := RB.cell (j := 1) (by simp)
  have r2 := RB.cell (j := 2) (by simp)
  have s0 := RB.frozen 0
  have s1 := RB.frozen 1
  have s2 := RB.frozen 2
  simp only [gCZ, gCS] at r0 r1 r2
  have HRB := jD RB
  clear hp RB
  unfold ansV
  go_wp2
  refine bodyPost_ret (v := .agg #[.int .i64 r.2.kind, .string r.2.text, .int .i64 0]) (by simp [results, Tryz.results45, go_sem, r0, r1, r2]) rfl ?_
  exact HP.out.laid B0.out hb (by omega) HRB.out _ _ _
set_option maxHeartbeats 2000000 in
theorem execute_fail (base X S gR cR : Nat) (G C : Nat → Nat → Nat) (W : Wd) (i : Nat) (key val : ByteArray) (w : World) (h : OwnD w X S gR cR G C W) (lo : LoD base X S gR G W.ss.length) (hw : WorldOk W) (hb : base ≤ w.heap.size) (hi : i < W.ss.length) (hkz : key.size ≤ 8) (hvz : val.size ≤ 60) (hst : W.ss[i].st ≠ 2) :
  Calls Tryz.prog 45 #[.pointer (some ⟨X, 0, none⟩), .int .i64 i, .agg #[.int .i64 5, .string key, .string val]] w (ExPost w base X S gR G W.ss.length (did1 W i 5 key val)) := by
 have hz := worldOk_sz hw
 have hXw := h.box.lt
 have hSw := h.blk.lt
 have x1 := h.box.cell (j := 1) (by simp)
 simp only [gCZ, gCS] at x1
 unfold slc at x1
 have c0 := h.st i hi
 have hii : (i : Int) < (W.ss.length : Int) := by omega
 have b0 : Below w.heap.size w ((w.alloc (.cells #[.int .i64 5, .string key, .string val] 41)).alloc (.cells #[.int .i64 0, .string ⟨#[]⟩, .int .i64 0] 46)) := ((Below.refl _ _).alloc (nL _) _).alloc (by simp) _
 have h0 := h.kept b0
 have X0 : RowTo ((w.alloc (.cells #[.int .i64 5, .string key, .string val] 41)).alloc (.cells #[.int .i64 0, .string ⟨#[]⟩, .int .i64 0] 46)) (w.heap.size + 1) 46 3 [.int .i64 0, .string ⟨#[]⟩, .int .i64 0] := by
  have := RowTo.whole (w.alloc (.cells #[.int .i64 5, .string key, .string val] 41)) #[.int .i64 0, .string ⟨#[]⟩, .int .i64 0] 46
  simpa using this
 have hzs : ((w.alloc (.cells #[.int .i64 5, .string key, .string val] 41)).alloc (.cells #[.int .i64 0, .string ⟨#[]⟩, .int .i64 0] 46)).heap.size = w.heap.size + 1 + 1 := by simp
 have hgr := h.rows.row.lt
 have hgg : ∀ i j, i < W.ss.length → j < 4 → w.heap.size + 1 ≠ G i j := fun i j hi hj => by have := (h.ls i j hi hj).row.lt; omega
 obtain ⟨r, hr⟩ : ∃ r, r = did1 W i 5 key val := ⟨_, rfl⟩
 rw [← hr]
 have hbs : base ≤ ((w.alloc (.cells #[.int .i64 5, .string key, .string val] 41)).alloc (.cells #[.int .i64 0, .string ⟨#[]⟩, .int .i64 0] 46)).heap.size := by omega
 have HC := jD (show Calls Tryz.prog 64 #[.string tAsked] ((w.alloc (.cells #[.int .i64 5, .string key, .string val] 41)).alloc (.cells #[.int .i64 0, .string ⟨#[]⟩, .int .i64 0] 46)) (ExPost ((w.alloc (.cells #[.int .i64 5, .string key, .string val] 41)).alloc (.cells #[.int .i64 0, .string ⟨#[]⟩, .int .i64 0] 46)) base X S gR G W.ss.length r) by
  rw [hr]
  rw [show did1 W i 5 key val = (W, no' tAsked) by unfold did1; simp only [getD_at hi]; rw [if_neg (fun hh => hst hh.1)]; simp]
  exact (failure_any tAsked _).mono fun e w' hh => ExPost.same h0 lo hz hbs hh.1 hh.2)
 have H := jD h
 have HZ := jD hz
 have HW := jD hw
 have B0 := jD b0
 have HX0 := jD X0
 have HZS := jD hzs
 have HG := jD hgg
 have HR := jD hr
 clear h hz hw b0 X0 hzs hgg hr h0 hbs
 have e2 : (W.ss[i].st == 2) = false := beq_eq_false_iff_ne.2 hst
 ·skip
  go_enter Tryz.func45, Tryz.ntmps45
  go_wp2_with fail
  refine HC.out.mono ?_
  rintro e wB hp
  obtain rfl := hp.1
  have RB := HX0.out.same (hp.2.2.2 (w.heap.size + 1) (by rw [HZS.out]; omega) (by omega) (by omega) (by omega) HG.out)
  have HP := jD hp
  have r0 := RB.cell (j := 0) (by simp)
  have r1 := RB.cell (j := 1) (by simp)
  have r2 := RB.cell (j := 2) (by simp)
  have s0 := RB.frozen 0
  have s1 := RB.frozen 1
  have s2 := RB.frozen 2
  simp only [gCZ, gCS] at r0 r1 r2
  have HRB := jD RB
  clear hp RB
  unfold ansV
  go_wp2
  refine bodyPost_ret (v := .agg #[.int .i64 r.2.kind, .string r.2.text, .int .i64 0]) (by simp [results, Tryz.results45, go_sem, r0, r1, r2]) rfl ?_
  exact HP.out.laid B0.out hb (by omega) HRB.out _ _ _
set_option maxHeartbeats 2000000 in
theorem execute_put (base X S gR cR : Nat) (G C : Nat → Nat → Nat) (W : Wd) (i : Nat) (key val : ByteArray) (w : World) (h : OwnD w X S gR cR G C W) (lo : LoD base X S gR G W.ss.length) (hw : WorldOk W) (hb : base ≤ w.heap.size) (hi : i < W.ss.length) (hkz : key.size ≤ 8) (hvz : val.size ≤ 60) (hst : W.ss[i].st ≠ 2) :
  Calls Tryz.prog 45 #[.pointer (some ⟨X, 0, none⟩), .int .i64 i, .agg #[.int .i64 10, .string key, .string val]] w (ExPost w base X S gR G W.ss.length (did1 W i 10 key val)) := by
 have hz := worldOk_sz hw
 have hXw := h.box.lt
 have hSw := h.blk.lt
 have x1 := h.box.cell (j := 1) (by simp)
 simp only [gCZ, gCS] at x1
 unfold slc at x1
 have c0 := h.st i hi
 have hii : (i : Int) < (W.ss.length : Int) := by omega
 have b0 : Below w.heap.size w ((w.alloc (.cells #[.int .i64 10, .string key, .string val] 41)).alloc (.cells #[.int .i64 0, .string ⟨#[]⟩, .int .i64 0] 46)) := ((Below.refl _ _).alloc (nL _) _).alloc (by simp) _
 have h0 := h.kept b0
 have X0 : RowTo ((w.alloc (.cells #[.int .i64 10, .string key, .string val] 41)).alloc (.cells #[.int .i64 0, .string ⟨#[]⟩, .int .i64 0] 46)) (w.heap.size + 1) 46 3 [.int .i64 0, .string ⟨#[]⟩, .int .i64 0] := by
  have := RowTo.whole (w.alloc (.cells #[.int .i64 10, .string key, .string val] 41)) #[.int .i64 0, .string ⟨#[]⟩, .int .i64 0] 46
  simpa using this
 have hzs : ((w.alloc (.cells #[.int .i64 10, .string key, .string val] 41)).alloc (.cells #[.int .i64 0, .string ⟨#[]⟩, .int .i64 0] 46)).heap.size = w.heap.size + 1 + 1 := by simp
 have hgr := h.rows.row.lt
 have hgg : ∀ i j, i < W.ss.length → j < 4 → w.heap.size + 1 ≠ G i j := fun i j hi hj => by have := (h.ls i j hi hj).row.lt; omega
 obtain ⟨r, hr⟩ : ∃ r, r = did1 W i 10 key val := ⟨_, rfl⟩
 rw [← hr]
 have hbs : base ≤ ((w.alloc (.cells #[.int .i64 10, .string key, .string val] 41)).alloc (.cells #[.int .i64 0, .string ⟨#[]⟩, .int .i64 0] 46)).heap.size := by omega
 have HC := jD (show Calls Tryz.prog 71 #[.pointer (some ⟨X, 0, none⟩), .int .i64 i, .agg #[.int .i64 10, .string key, .string val]] ((w.alloc (.cells #[.int .i64 10, .string key, .string val] 41)).alloc (.cells #[.int .i64 0, .string ⟨#[]⟩, .int .i64 0] 46)) (ExPost ((w.alloc (.cells #[.int .i64 10, .string key, .string val] 41)).alloc (.cells #[.int .i64 0, .string ⟨#[]⟩, .int .i64 0] 46)) base X S gR G W.ss.length r) by
  rw [hr]
  exact put_any base X S gR cR G C W i key val _ h0 lo hw hbs hi hkz hvz hst)
 have H := jD h
 have HZ := jD hz
 have HW := jD hw
 have B0 := jD b0
 have HX0 := jD X0
 have HZS := jD hzs
 have HG := jD hgg
 have HR := jD hr
 clear h hz hw b0 X0 hzs hgg hr h0 hbs
 have e2 : (W.ss[i].st == 2) = false := beq_eq_false_iff_ne.2 hst
 ·skip
  go_enter Tryz.func45, Tryz.ntmps45
  go_wp2_with fail
  refine HC.out.mono ?_
  rintro e wB hp
  obtain rfl := hp.1
  have RB := HX0.out.same (hp.2.2.2 (w.heap.size + 1) (by rw [HZS.out]; omega) (by omega) (by omega) (by omega) HG.out)
  have HP := jD hp
  have r0 := RB.cell (j := 0) (by simp)
  have r1 := RB.cell (j := 1) (by simp)
  have r2 := RB.cell (j := 2) (by simp)
  have s0 := RB.frozen 0
  have s1 := RB.frozen 1
  have s2 := RB.frozen 2
  simp only [gCZ, gCS] at r0 r1 r2
  have HRB := jD RB
  clear hp RB
  unfold ansV
  go_wp2
  refine bodyPost_ret (v := .agg #[.int .i64 r.2.kind, .string r.2.text, .int .i64 0]) (by simp [results, Tryz.results45, go_sem, r0, r1, r2]) rfl ?_
  exact HP.out.laid B0.out hb (by omega) HRB.out _ _ _
set_option maxHeartbeats 2000000 in
theorem execute_failed (base X S gR cR : Nat) (G C : Nat → Nat → Nat) (W : Wd) (i : Nat) (k : Int) (key val : ByteArray) (w : World) (h : OwnD w X S gR cR G C W) (lo : LoD base X S gR G W.ss.length) (hw : WorldOk W) (hb : base ≤ w.heap.size) (hi : i < W.ss.length) (hkz : key.size ≤ 8) (hvz : val.size ≤ 60) (hst : W.ss[i].st = 2) (hk2 : ¬ (k = 2 ∨ k = 3)) :
  Calls Tryz.prog 45 #[.pointer (some ⟨X, 0, none⟩), .int .i64 i, .agg #[.int .i64 k, .string key, .string val]] w (ExPost w base X S gR G W.ss.length (did1 W i k key val)) := by
 have hz := worldOk_sz hw
 have hXw := h.box.lt
 have hSw := h.blk.lt
 have x1 := h.box.cell (j := 1) (by simp)
 simp only [gCZ, gCS] at x1
 unfold slc at x1
 have c0 := h.st i hi
 have hii : (i : Int) < (W.ss.length : Int) := by omega
 have b0 : Below w.heap.size w ((w.alloc (.cells #[.int .i64 k, .string key, .string val] 41)).alloc (.cells #[.int .i64 0, .string ⟨#[]⟩, .int .i64 0] 46)) := ((Below.refl _ _).alloc (nL _) _).alloc (by simp) _
 have h0 := h.kept b0
 have X0 : RowTo ((w.alloc (.cells #[.int .i64 k, .string key, .string val] 41)).alloc (.cells #[.int .i64 0, .string ⟨#[]⟩, .int .i64 0] 46)) (w.heap.size + 1) 46 3 [.int .i64 0, .string ⟨#[]⟩, .int .i64 0] := by
  have := RowTo.whole (w.alloc (.cells #[.int .i64 k, .string key, .string val] 41)) #[.int .i64 0, .string ⟨#[]⟩, .int .i64 0] 46
  simpa using this
 have hzs : ((w.alloc (.cells #[.int .i64 k, .string key, .string val] 41)).alloc (.cells #[.int .i64 0, .string ⟨#[]⟩, .int .i64 0] 46)).heap.size = w.heap.size + 1 + 1 := by simp
 have hgr := h.rows.row.lt
 have hgg : ∀ i j, i < W.ss.length → j < 4 → w.heap.size + 1 ≠ G i j := fun i j hi hj => by have := (h.ls i j hi hj).row.lt; omega
 obtain ⟨r, hr⟩ : ∃ r, r = did1 W i k key val := ⟨_, rfl⟩
 rw [← hr]
 have hbs : base ≤ ((w.alloc (.cells #[.int .i64 k, .string key, .string val] 41)).alloc (.cells #[.int .i64 0, .string ⟨#[]⟩, .int .i64 0] 46)).heap.size := by omega
 have HC := jD (show Calls Tryz.prog 64 #[.string tFailed] ((w.alloc (.cells #[.int .i64 k, .string key, .string val] 41)).alloc (.cells #[.int .i64 0, .string ⟨#[]⟩, .int .i64 0] 46)) (ExPost ((w.alloc (.cells #[.int .i64 k, .string key, .string val] 41)).alloc (.cells #[.int .i64 0, .string ⟨#[]⟩, .int .i64 0] 46)) base X S gR G W.ss.length r) by
  rw [hr]
  rw [show did1 W i k key val = (W, no' tFailed) by unfold did1; simp only [getD_at hi]; rw [if_pos ⟨hst, hk2⟩]]
  exact (failure_any tFailed _).mono fun e w' hh => ExPost.same h0 lo hz hbs hh.1 hh.2)
 have H := jD h
 have HZ := jD hz
 have HW := jD hw
 have B0 := jD b0
 have HX0 := jD X0
 have HZS := jD hzs
 have HG := jD hgg
 have HR := jD hr
 clear h hz hw b0 X0 hzs hgg hr h0 hbs
 have e2 : (W.ss[i].st == 2) = true := beq_iff_eq.2 hst
 have e3 : (k != 2) = true := bne_iff_ne.2 (fun e => hk2 (.inl e))
 have e4 : (k != 3) = true := bne_iff_ne.2 (fun e => hk2 (.inr e))
 clear hk2
 ·skip
  go_enter Tryz.func45, Tryz.ntmps45
  go_wp2_with fail
  refine HC.out.mono ?_
  rintro e wB hp
  obtain rfl := hp.1
  have RB := HX0.out.same (hp.2.2.2 (w.heap.size + 1) (by rw [HZS.out]; omega) (by omega) (by omega) (by omega) HG.out)
  have HP := jD hp
  have r0 := RB.cell (j := 0) (by simp)
  have r1 := RB.cell (j := 1) (by simp)
  have r2 := RB.cell (j := 2) (by simp)
  have s0 := RB.frozen 0
  have s1 := RB.frozen 1
  have s2 := RB.frozen 2
  simp only [gCZ, gCS] at r0 r1 r2
  have HRB := jD RB
  clear hp RB
  unfold ansV
  go_wp2
  refine bodyPost_ret (v := .agg #[.int .i64 r.2.kind, .string r.2.text, .int .i64 0]) (by simp [results, Tryz.results45, go_sem, r0, r1, r2]) rfl ?_
  exact HP.out.laid B0.out hb (by omega) HRB.out _ _ _
end Go.Proofs.YtpbaobmegomfpabGreatDoor
