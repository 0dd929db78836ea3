/-
  Texts of the proof, one behind the other: Say6, Stm, Say12, BExec, BExec2, BFit, Say7.
-/
import Derived.Test.YtpbaobmegomfpabGreatDoorM10
import Derived.Test.YtpbaobmegomfpabGreatDoorM1
import Derived.Test.YtpbaobmegomfpabGreatDoorM3
import Derived.Deep.RegionHeld3
import Derived.Deep.RegionWith
import Derived.Test.YtpbaobmegomfpabGreatDoorM5
import Derived.Test.YtpbaobmegomfpabGreatDoorM4
import Derived.Maps.RangeWalk
set_option linter.unusedVariables false
set_option linter.unusedSimpArgs false
set_option maxRecDepth 100000
open List renaming getElem_toArray → gTA, getElem_cons_zero → gCZ, getElem_cons_succ → gCS, setIfInBounds_toArray → sTA, set_cons_zero → sCZ, set_cons_succ → sCS
open Go.Lib renaming hid → jD
open Nat renaming le_refl → nL
namespace Go.Proofs.YtpbaobmegomfpabGreatDoor
open Go.RowKit
theorem cell_new (w : World) (cs : Array Value) (t : TypeId) (i : Nat) (h : i < cs.size) : (w.alloc (.cells cs t)).cell? ⟨w.heap.size, i, none⟩ = some cs[i] := by
 rw [World.cell?_alloc_at _ _ _ _ rfl, Array.getElem?_eq_getElem h]
set_option maxHeartbeats 400000 in
theorem plainValueFits_any (k : Int) (key v : ByteArray) (w : World) (hv : v.size ≤ maxLen) :
  Calls Tryz.prog 108 #[.agg #[.int .i64 k, .string key, .string v]] w fun e w' => e = .returned (.bool (plainV k v)) ∧ Below w.heap.size w w' := by
 by_cases h : k = 9 ∨ k = 10
 ·rw [plainV_yes h]
  rcases h with rfl | rfl
  all_goals
   go_enter Tryz.func108, Tryz.ntmps108
   go_wp2_with fail
   refine (isValue_any v _ hv).mono ?_
   rintro e w1 ⟨rfl, hb⟩
   go_wp2
   go_ret
   exact ⟨rfl, bel_trans ((Below.refl _ _).alloc (nL _) _) hb⟩
 ·rw [plainV_no h]
  have h9 : (k == 9) = false := beq_eq_false_iff_ne.2 (by omega)
  have h10 : (k == 10) = false := beq_eq_false_iff_ne.2 (by omega)
  clear h
  go_enter Tryz.func108, Tryz.ntmps108
  go_wp2
  go_ret
  exact ⟨rfl, (Below.refl _ _).alloc (nL _) _⟩
set_option maxHeartbeats 1000000 in
theorem keyFits_any (k : Int) (key v : ByteArray) (w : World) (hk : key.size ≤ maxLen) :
  Calls Tryz.prog 84 #[.agg #[.int .i64 k, .string key, .string v]] w fun e w' => e = .returned (.bool (keyB k key)) ∧ Below w.heap.size w w' := by
 by_cases h : 6 ≤ k ∧ k ≤ 11
 ·rw [keyB_yes h]
  obtain rfl | rfl | rfl | rfl | rfl | rfl : k = 6 ∨ k = 7 ∨ k = 8 ∨ k = 9 ∨ k = 10 ∨ k = 11 := by omega
  all_goals
   clear h
   go_enter Tryz.func84, Tryz.ntmps84
   go_wp2_with fail
   refine (name_any key _ hk).mono ?_
   rintro e w1 ⟨rfl, hb⟩
   go_wp2
   go_ret
   exact ⟨rfl, bel_trans ((Below.refl _ _).alloc (nL _) _) hb⟩
 ·rw [keyB_no h]
  have h6 : (k == 6) = false := beq_eq_false_iff_ne.2 (by omega)
  have h7 : (k == 7) = false := beq_eq_false_iff_ne.2 (by omega)
  have h8 : (k == 8) = false := beq_eq_false_iff_ne.2 (by omega)
  have h9 : (k == 9) = false := beq_eq_false_iff_ne.2 (by omega)
  have h10 : (k == 10) = false := beq_eq_false_iff_ne.2 (by omega)
  have h11 : (k == 11) = false := beq_eq_false_iff_ne.2 (by omega)
  clear h
  go_enter Tryz.func84, Tryz.ntmps84
  go_wp2
  go_ret
  exact ⟨rfl, (Below.refl _ _).alloc (nL _) _⟩
set_option maxHeartbeats 1000000 in
theorem preparable_any (t : ByteArray) (w : World) (ht : t.size ≤ maxLen) (hW : Words w) :
  Calls Tryz.prog 107 #[.string t] w fun e w' => e = .returned (.bool (prepB t)) ∧ Below w.heap.size w w' := by
 have HW := jD hW
 clear hW
 by_cases h : splitE t = 0
 ·by_cases hk : kindN (cutA t) = 6 ∨ kindN (cutA t) = 7 ∨ kindN (cutA t) = 10
  ·rw [prepB_rest h hk]
   have H := jD h
   clear h
   have hs1 : (cutA (cutB t)).size ≤ maxLen := by rw [cutA_size]; have := cutI_le (cutB t); have := cutB_size t; omega
   have hs2 : (cutB (cutB t)).size ≤ maxLen := by rw [cutB_size]; have := cutB_size t; omega
   have hsp := jD (split_ok t w ht HW.out H.out)
   generalize cutA (cutB t) = key at *
   generalize cutB (cutB t) = v at *
   generalize kindN (cutA t) = k at *
   cases hn : bndB 97 122 8 key
   ·have HN := jD hn
    clear hn
    rcases hk with rfl | rfl | rfl
    all_goals
     go_enter Tryz.func107, Tryz.ntmps107
     go_wp2_with fail
     refine hsp.out.mono ?_
     rintro e w1 ⟨rfl, hb⟩
     go_wp2_with fail
     refine (name_any key _ hs1).mono ?_
     rw [HN.out]
     rintro e w2 ⟨rfl, hb2⟩
     go_wp2
     go_ret
     exact ⟨by rw [Bool.false_and]; rfl, bel_trans (hb.alloc hb.size _) hb2⟩
   ·have HN := jD hn
    clear hn
    rcases hk with rfl | rfl | rfl
    all_goals
     go_enter Tryz.func107, Tryz.ntmps107
     go_wp2_with fail
     refine hsp.out.mono ?_
     rintro e w1 ⟨rfl, hb⟩
     go_wp2_with fail
     refine (name_any key _ hs1).mono ?_
     rw [HN.out]
     rintro e w2 ⟨rfl, hb2⟩
     have c0 := (hb2.cell (p := ⟨w1.heap.size, 0, none⟩) (by simp)).trans (cell_new w1 _ _ 0 (by simp))
     have c1 := (hb2.cell (p := ⟨w1.heap.size, 1, none⟩) (by simp)).trans (cell_new w1 _ _ 1 (by simp))
     have c2 := (hb2.cell (p := ⟨w1.heap.size, 2, none⟩) (by simp)).trans (cell_new w1 _ _ 2 (by simp))
     simp only [gTA, gCZ, gCS] at c0 c1 c2
     go_wp2_with fail
     refine (plainValueFits_any _ key v _ hs2).mono ?_
     rintro e w3 ⟨rfl, hb3⟩
     go_wp2
     go_ret
     exact ⟨by rw [Bool.true_and]; rfl, bel_trans (bel_trans (hb.alloc hb.size _) hb2) hb3⟩
  ·rw [prepB_kind hk]
   have H := jD h
   clear h
   have hsp := jD (split_ok t w ht HW.out H.out)
   generalize cutA (cutB t) = key at *
   generalize cutB (cutB t) = v at *
   generalize kindN (cutA t) = k at *
   have h6 : ((k : Int) == 6) = false := beq_eq_false_iff_ne.2 (by omega)
   have h7 : ((k : Int) == 7) = false := beq_eq_false_iff_ne.2 (by omega)
   have h10 : ((k : Int) == 10) = false := beq_eq_false_iff_ne.2 (by omega)
   clear hk
   go_enter Tryz.func107, Tryz.ntmps107
   go_wp2_with fail
   refine hsp.out.mono ?_
   rintro e w1 ⟨rfl, hb⟩
   go_wp2
   go_ret
   exact ⟨rfl, hb.alloc hb.size _⟩
 ·rw [prepB_split h]
  have hsp := jD (split_no t w ht HW.out h)
  have hne : ((splitE t) != 0) = true := bne_iff_ne.2 h
  generalize splitE t = e0 at *
  clear h
  go_enter Tryz.func107, Tryz.ntmps107
  go_wp2_with fail
  refine hsp.out.mono ?_
  rintro e w1 ⟨rfl, hb⟩
  go_wp2
  go_ret
  exact ⟨rfl, hb.alloc hb.size _⟩
set_option maxHeartbeats 400000 in
theorem valueFits_any (k : Int) (key v : ByteArray) (w : World) (hv : v.size ≤ maxLen) (hW : Words w) :
  Calls Tryz.prog 85 #[.agg #[.int .i64 k, .string key, .string v]] w fun e w' => e = .returned (.bool (valueB k v)) ∧ Below w.heap.size w w' := by
 have HW := jD hW
 clear hW
 by_cases h : k = 11
 ·subst h
  go_enter Tryz.func85, Tryz.ntmps85
  go_wp2_with fail
  refine (preparable_any v _ hv (HW.out.alloc _)).mono ?_
  rintro e w1 ⟨rfl, hb⟩
  go_wp2
  go_ret
  exact ⟨rfl, bel_trans ((Below.refl _ _).alloc (nL _) _) hb⟩
 ·have hvb := jD (show valueB k v = plainV k v by unfold valueB; rw [if_neg h])
  have h11 : (k == 11) = false := beq_eq_false_iff_ne.2 h
  clear h
  go_enter Tryz.func85, Tryz.ntmps85
  go_wp2_with fail
  refine (plainValueFits_any k key v _ hv).mono ?_
  rintro e w1 ⟨rfl, hb⟩
  go_wp2
  go_ret
  exact ⟨by rw [hvb.out]; rfl, bel_trans ((Below.refl _ _).alloc (nL _) _) hb⟩
set_option maxHeartbeats 1000000 in
theorem check_any (k : Int) (key v : ByteArray) (w : World) (hk : key.size ≤ maxLen) (hv : v.size ≤ maxLen) (hW : Words w) :
  Calls Tryz.prog 58 #[.agg #[.int .i64 k, .string key, .string v]] w fun e w' => e = .returned (.int .i64 (checkE k key v)) ∧ Below w.heap.size w w' := by
 have HW := jD hW
 clear hW
 by_cases h : k < 1 ∨ 11 < k
 ·rw [checkE_kind h]
  rcases h with h | h
  ·go_enter Tryz.func58, Tryz.ntmps58
   go_wp2
   go_ret
   exact ⟨rfl, (Below.refl _ _).alloc (nL _) _⟩
  ·have h1 : decide (k < 1) = false := decide_eq_false (by omega)
   go_enter Tryz.func58, Tryz.ntmps58
   go_wp2
   go_ret
   exact ⟨rfl, (Below.refl _ _).alloc (nL _) _⟩
 ·have d1 : decide (k < 1) = false := decide_eq_false (by omega)
  have d2 : decide (11 < k) = false := decide_eq_false (by omega)
  cases h1 : keyB k key
  ·rw [checkE_key h h1]
   have H1 := jD h1
   clear h h1
   go_enter Tryz.func58, Tryz.ntmps58
   go_wp2_with fail
   refine (keyFits_any k key v _ hk).mono ?_
   rw [H1.out]
   rintro e w1 ⟨rfl, hb⟩
   go_wp2
   go_ret
   exact ⟨rfl, bel_trans ((Below.refl _ _).alloc (nL _) _) hb⟩
  ·have H1 := jD h1
   cases h2 : valueB k v
   all_goals
    first | rw [checkE_value h h2] | rw [checkE_ok h h1 h2]
    have H2 := jD h2
    clear h2 h h1
    go_enter Tryz.func58, Tryz.ntmps58
    go_wp2_with fail
    refine (keyFits_any k key v _ hk).mono ?_
    rw [H1.out]
    rintro e w1 ⟨rfl, hb⟩
    have c0 := (hb.cell (p := ⟨w.heap.size, 0, none⟩) (by simp)).trans (cell_new w _ _ 0 (by simp))
    have c1 := (hb.cell (p := ⟨w.heap.size, 1, none⟩) (by simp)).trans (cell_new w _ _ 1 (by simp))
    have c2 := (hb.cell (p := ⟨w.heap.size, 2, none⟩) (by simp)).trans (cell_new w _ _ 2 (by simp))
    simp only [gTA, gCZ, gCS] at c0 c1 c2
    have hW1 := jD ((HW.out.alloc _).below hb)
    go_wp2_with fail
    refine (valueFits_any k key v _ hv hW1.out).mono ?_
    rw [H2.out]
    rintro e w2 ⟨rfl, hb2⟩
    go_wp2
    go_ret
    exact ⟨rfl, bel_trans (bel_trans ((Below.refl _ _).alloc (nL _) _) hb) hb2⟩
end Go.Proofs.YtpbaobmegomfpabGreatDoor
namespace Go.Proofs.YtpbaobmegomfpabGreatDoor
open Go.RowKit
structure Stm (w : World) (b : Nat) (k : Int) (x y : ByteArray) : Prop where
 lt : b < w.heap.size
 c0 : w.cell? ⟨b, 0, none⟩ = some (.int .i64 k)
 c1 : w.cell? ⟨b, 1, none⟩ = some (.string x)
 c2 : w.cell? ⟨b, 2, none⟩ = some (.string y)
 fz : ∀ i, w.frozen? ⟨b, i, none⟩ = false
theorem Stm.below {w w' : World} {b : Nat} {k : Int} {x y : ByteArray} (h : Stm w b k x y) (hb : Below w.heap.size w w') : Stm w' b k x y :=
 ⟨Nat.lt_of_lt_of_le h.lt hb.size, (hb.cell (p := ⟨b, 0, none⟩) h.lt).trans h.c0, (hb.cell (p := ⟨b, 1, none⟩) h.lt).trans h.c1, (hb.cell (p := ⟨b, 2, none⟩) h.lt).trans h.c2,
  fun i => (hb.frozen (p := ⟨b, i, none⟩) h.lt).trans (h.fz i)⟩
theorem Stm.other {w : World} {b b' i : Nat} {k : Int} {x y : ByteArray} {u : Value} (h : Stm w b k x y) (_ : b ≠ b') : Stm (w.setCell ⟨b', i, none⟩ u) b k x y := by
 obtain ⟨lt, c0, c1, c2, fz⟩ := h
 refine ⟨by simpa using lt, ?_, ?_, ?_, fun i => ?_⟩
 ·simp [go_sem, c0]
 ·simp [go_sem, c1]
 ·simp [go_sem, c2]
 ·simp [go_sem, fz]
theorem Stm.new (w : World) (k : Int) (x y : ByteArray) (t : TypeId) : Stm (w.alloc (.cells #[.int .i64 k, .string x, .string y] t)) w.heap.size k x y := by
 refine ⟨by simp, ?_, ?_, ?_, fun i => ?_⟩
 ·rw [cell_new _ _ _ 0 (by simp)]; rfl
 ·rw [cell_new _ _ _ 1 (by simp)]; rfl
 ·rw [cell_new _ _ _ 2 (by simp)]; rfl
 ·simp [go_sem]
end Go.Proofs.YtpbaobmegomfpabGreatDoor
namespace Go.Proofs.YtpbaobmegomfpabGreatDoor
open Go.RowKit
theorem cell_set3 {w : World} {b R i : Nat} {u x y z : Value} (h : w.cell? ⟨b, i, none⟩ = some u) (hne : b ≠ R) :
  (((w.setCell ⟨R, 0, none⟩ x).setCell ⟨R, 1, none⟩ y).setCell ⟨R, 2, none⟩ z).cell? ⟨b, i, none⟩ = some u := by
 simp [go_sem, h]
set_option maxHeartbeats 1000000 in
theorem read_ok (t : ByteArray) (w : World) (hW : Words w) (h : readE t = 0) :
  Calls Tryz.prog 96 #[.string t] w fun e w' => e = .returned (.tuple #[.agg #[.int .i64 (kindN (cutA t)), .string (cutA (cutB t)), .string (cutB (cutB t))], .int .i64 0]) ∧ Below w.heap.size w w' := by
 have HW := jD hW
 clear hW
 have hl : ¬ 60 < t.size := fun hl => by rw [readE_long hl] at h; cases h
 have hsp : splitE t = 0 := Classical.byContradiction fun hs => by rw [readE_split hl hs] at h; exact hs h
 have hck := readE_check hl hsp
 rw [h] at hck
 have hd : decide (60 < (t.size : Int)) = false := decide_eq_false (by omega)
 have hg := good_of hck.symm
 have k8 := hg.key8
 have v60 := hg.v60
 have HSP := jD (split_ok t (w.alloc (.cells #[.int .i64 0, .string ⟨#[]⟩, .string ⟨#[]⟩] 41)) (by unfold maxLen; omega) (HW.out.alloc _) hsp)
 have HCK := jD hck
 clear hck hsp h hg
 generalize kindN (cutA t) = k at *
 generalize cutA (cutB t) = key at *
 generalize cutB (cutB t) = v at *
 go_enter Tryz.func96, Tryz.ntmps96
 go_wp2_with fail
 refine HSP.out.mono ?_
 rintro e w1 ⟨rfl, hb⟩
 have R := (Stm.new w 0 ⟨#[]⟩ ⟨#[]⟩ 41).below hb
 have HR := jD R
 clear R
 go_wp2_with fail
 have hc := check_any k key v (w1.alloc (.cells #[.int .i64 k, .string key, .string v] 41)) (by unfold maxLen; omega) (by unfold maxLen; omega) (((HW.out.alloc _).below hb).alloc _)
 rw [← HCK.out] at hc
 refine hc.mono ?_
 clear hc
 rintro e w2 ⟨rfl, hb2⟩
 have S2 := (Stm.new w1 k key v 41).below hb2
 have R2 := (HR.out.below ((Below.refl _ _).alloc (nL _) (.cells #[.int .i64 k, .string key, .string v] 41))).below hb2
 obtain ⟨sl, s0, s1, s2, sf⟩ := S2
 obtain ⟨rl, r0, r1, r2, rf⟩ := R2
 have b2 : Below w.heap.size w w2 := bel_trans ((bel_trans ((Below.refl _ _).alloc (nL _) _) hb).alloc (bel_trans ((Below.refl _ _).alloc (nL _) _) hb).size _) hb2
 have hne : w1.heap.size ≠ w.heap.size := by have := HR.out.lt; omega
 go_wp2
 go_region_held3 (fun wx => wx.cell? ⟨w1.heap.size, 0, none⟩ = some (.int .i64 k) ∧ wx.cell? ⟨w1.heap.size, 1, none⟩ = some (.string key) ∧ wx.cell? ⟨w1.heap.size, 2, none⟩ = some (.string v))
  (first | exact ⟨p0, p1, p2⟩ | exact ⟨s0, s1, s2⟩ | exact ⟨cell_set3 p0 hne, cell_set3 p1 hne, cell_set3 p2 hne⟩)
  (first
   | (
    go_at_call_of 46 (Value.string key)
    refine (clone_any key _ (by omega)).mono ?_
    rintro e w3 ⟨rfl, hy⟩
    have q0 : w3.cell? ⟨w.heap.size, 0, none⟩ = some (.int .i64 0) := by first | exact (hy.cell (p := ⟨w.heap.size, 0, none⟩) rl).trans r0 | exact (hy.cell (p := ⟨w.heap.size, 0, none⟩) ql).trans q0
    have q1 : w3.cell? ⟨w.heap.size, 1, none⟩ = some (.string ⟨#[]⟩) := by first | exact (hy.cell (p := ⟨w.heap.size, 1, none⟩) rl).trans r1 | exact (hy.cell (p := ⟨w.heap.size, 1, none⟩) ql).trans q1
    have q2 : w3.cell? ⟨w.heap.size, 2, none⟩ = some (.string ⟨#[]⟩) := by first | exact (hy.cell (p := ⟨w.heap.size, 2, none⟩) rl).trans r2 | exact (hy.cell (p := ⟨w.heap.size, 2, none⟩) ql).trans q2
    have qf : ∀ i, w3.frozen? ⟨w.heap.size, i, none⟩ = false := by first | exact fun i => (hy.frozen (p := ⟨w.heap.size, i, none⟩) rl).trans (rf i) | exact fun i => (hy.frozen (p := ⟨w.heap.size, i, none⟩) ql).trans (qf i)
    have p0 : w3.cell? ⟨w1.heap.size, 0, none⟩ = some (.int .i64 k) := by first | exact (hy.cell (p := ⟨w1.heap.size, 0, none⟩) sl).trans s0 | exact (hy.cell (p := ⟨w1.heap.size, 0, none⟩) pl).trans p0
    have p1 : w3.cell? ⟨w1.heap.size, 1, none⟩ = some (.string key) := by first | exact (hy.cell (p := ⟨w1.heap.size, 1, none⟩) sl).trans s1 | exact (hy.cell (p := ⟨w1.heap.size, 1, none⟩) pl).trans p1
    have p2 : w3.cell? ⟨w1.heap.size, 2, none⟩ = some (.string v) := by first | exact (hy.cell (p := ⟨w1.heap.size, 2, none⟩) sl).trans s2 | exact (hy.cell (p := ⟨w1.heap.size, 2, none⟩) pl).trans p2
    have pb : Below w.heap.size w w3 := by first | exact b2.trans ⟨hy.os, hy.tape, hy.output, hy.size, fun i hi => hy.block i (by first | exact Nat.lt_trans hi rl | exact Nat.lt_of_lt_of_le hi b2.size)⟩ | exact pb.trans (hy.mono pb.size)
    have ql : w.heap.size < w3.heap.size := by first | exact Nat.lt_of_lt_of_le rl hy.size | exact Nat.lt_of_lt_of_le ql hy.size
    have pl : w1.heap.size < w3.heap.size := by first | exact Nat.lt_of_lt_of_le sl hy.size | exact Nat.lt_of_lt_of_le pl hy.size)
   | (
    go_at_call_of 46 (Value.string v)
    refine (clone_any v _ (by omega)).mono ?_
    rintro e w3 ⟨rfl, hy⟩
    have q0 : w3.cell? ⟨w.heap.size, 0, none⟩ = some (.int .i64 0) := by first | exact (hy.cell (p := ⟨w.heap.size, 0, none⟩) rl).trans r0 | exact (hy.cell (p := ⟨w.heap.size, 0, none⟩) ql).trans q0
    have q1 : w3.cell? ⟨w.heap.size, 1, none⟩ = some (.string ⟨#[]⟩) := by first | exact (hy.cell (p := ⟨w.heap.size, 1, none⟩) rl).trans r1 | exact (hy.cell (p := ⟨w.heap.size, 1, none⟩) ql).trans q1
    have q2 : w3.cell? ⟨w.heap.size, 2, none⟩ = some (.string ⟨#[]⟩) := by first | exact (hy.cell (p := ⟨w.heap.size, 2, none⟩) rl).trans r2 | exact (hy.cell (p := ⟨w.heap.size, 2, none⟩) ql).trans q2
    have qf : ∀ i, w3.frozen? ⟨w.heap.size, i, none⟩ = false := by first | exact fun i => (hy.frozen (p := ⟨w.heap.size, i, none⟩) rl).trans (rf i) | exact fun i => (hy.frozen (p := ⟨w.heap.size, i, none⟩) ql).trans (qf i)
    have p0 : w3.cell? ⟨w1.heap.size, 0, none⟩ = some (.int .i64 k) := by first | exact (hy.cell (p := ⟨w1.heap.size, 0, none⟩) sl).trans s0 | exact (hy.cell (p := ⟨w1.heap.size, 0, none⟩) pl).trans p0
    have p1 : w3.cell? ⟨w1.heap.size, 1, none⟩ = some (.string key) := by first | exact (hy.cell (p := ⟨w1.heap.size, 1, none⟩) sl).trans s1 | exact (hy.cell (p := ⟨w1.heap.size, 1, none⟩) pl).trans p1
    have p2 : w3.cell? ⟨w1.heap.size, 2, none⟩ = some (.string v) := by first | exact (hy.cell (p := ⟨w1.heap.size, 2, none⟩) sl).trans s2 | exact (hy.cell (p := ⟨w1.heap.size, 2, none⟩) pl).trans p2
    have pb : Below w.heap.size w w3 := by first | exact b2.trans ⟨hy.os, hy.tape, hy.output, hy.size, fun i hi => hy.block i (by first | exact Nat.lt_trans hi rl | exact Nat.lt_of_lt_of_le hi b2.size)⟩ | exact pb.trans (hy.mono pb.size)
    have ql : w.heap.size < w3.heap.size := by first | exact Nat.lt_of_lt_of_le rl hy.size | exact Nat.lt_of_lt_of_le ql hy.size
    have pl : w1.heap.size < w3.heap.size := by first | exact Nat.lt_of_lt_of_le sl hy.size | exact Nat.lt_of_lt_of_le pl hy.size))
 all_goals go_wp2
 all_goals refine bodyPost_ret (v := .tuple #[.agg #[.int .i64 k, .string key, .string v], .int .i64 0]) (by simp [results, Tryz.results96, go_sem, q0, q1, q2]) rfl ⟨rfl, ?_⟩
 all_goals repeat' (first | exact Below.refl _ _ | assumption | with_reducible refine below_drewN ?_ _ | with_reducible refine Below.drew ?_ | with_reducible refine Below.setCell ?_ ?_ _ | with_reducible refine Below.alloc ?_ ?_ _ | (simp; done) | (simp; omega))
theorem read_long (t : ByteArray) (w : World) (h : 60 < t.size) :
  Calls Tryz.prog 96 #[.string t] w fun e w' => e = .returned (.tuple #[.agg #[.int .i64 0, .string ⟨#[]⟩, .string ⟨#[]⟩], .int .i64 1]) ∧ Below w.heap.size w w' := by
 have hd : decide (60 < (t.size : Int)) = true := decide_eq_true (by omega)
 go_enter Tryz.func96, Tryz.ntmps96
 go_wp2
 refine bodyPost_ret (v := .tuple #[.agg #[.int .i64 0, .string ⟨#[]⟩, .string ⟨#[]⟩], .int .i64 1]) (by simp [results, Tryz.results96, go_sem]) rfl ⟨rfl, ?_⟩
 repeat' (first | exact Below.refl _ _ | assumption | with_reducible refine below_drewN ?_ _ | with_reducible refine Below.drew ?_ | with_reducible refine Below.setCell ?_ ?_ _ | with_reducible refine Below.alloc ?_ ?_ _ | (simp; done) | (simp; omega))
set_option maxHeartbeats 400000 in
theorem read_split (t : ByteArray) (w : World) (hW : Words w) (hl : ¬ 60 < t.size) (h : splitE t ≠ 0) :
  Calls Tryz.prog 96 #[.string t] w fun e w' => e = .returned (.tuple #[.agg #[.int .i64 0, .string ⟨#[]⟩, .string ⟨#[]⟩], .int .i64 (splitE t)]) ∧ Below w.heap.size w w' := by
 have hd : decide (60 < (t.size : Int)) = false := decide_eq_false (by omega)
 have HSP := jD (split_no t (w.alloc (.cells #[.int .i64 0, .string ⟨#[]⟩, .string ⟨#[]⟩] 41)) (by unfold maxLen; omega) (hW.alloc _) h)
 have h1 : (splitE t == 0) = false := beq_eq_false_iff_ne.2 h
 have h2 : (splitE t != 0) = true := bne_iff_ne.2 h
 generalize splitE t = c at *
 clear hW h
 go_enter Tryz.func96, Tryz.ntmps96
 go_wp2_with fail
 refine HSP.out.mono ?_
 rintro e w1 ⟨rfl, hb⟩
 obtain ⟨rl, r0, r1, r2, rf⟩ := (Stm.new w 0 ⟨#[]⟩ ⟨#[]⟩ 41).below hb
 have bel := bel_trans ((Below.refl _ _).alloc (nL _) _) hb
 go_wp2
 refine bodyPost_ret (v := .tuple #[.agg #[.int .i64 0, .string ⟨#[]⟩, .string ⟨#[]⟩], .int .i64 c]) (by simp [results, Tryz.results96, go_sem, r0, r1, r2, rl]) rfl ⟨rfl, ?_⟩
 repeat' (first | exact Below.refl _ _ | assumption | with_reducible refine below_drewN ?_ _ | with_reducible refine Below.drew ?_ | with_reducible refine Below.setCell ?_ ?_ _ | with_reducible refine Below.alloc ?_ ?_ _ | (simp; done) | (simp; omega))
set_option maxHeartbeats 400000 in
theorem read_check (t : ByteArray) (w : World) (hW : Words w) (hl : ¬ 60 < t.size) (h : splitE t = 0) (hc : checkE (kindN (cutA t)) (cutA (cutB t)) (cutB (cutB t)) ≠ 0) :
  Calls Tryz.prog 96 #[.string t] w fun e w' => e = .returned (.tuple #[.agg #[.int .i64 0, .string ⟨#[]⟩, .string ⟨#[]⟩], .int .i64 (checkE (kindN (cutA t)) (cutA (cutB t)) (cutB (cutB t)))]) ∧ Below w.heap.size w w' := by
 have hd : decide (60 < (t.size : Int)) = false := decide_eq_false (by omega)
 have HW := jD hW
 have HSP := jD (split_ok t (w.alloc (.cells #[.int .i64 0, .string ⟨#[]⟩, .string ⟨#[]⟩] 41)) (by unfold maxLen; omega) (hW.alloc _) h)
 have hk8 : (cutA (cutB t)).size ≤ maxLen := by rw [cutA_size]; have := cutI_le (cutB t); have := cutB_size t; unfold maxLen; omega
 have hv8 : (cutB (cutB t)).size ≤ maxLen := by rw [cutB_size]; have := cutB_size t; unfold maxLen; omega
 generalize kindN (cutA t) = k at *
 generalize cutA (cutB t) = key at *
 generalize cutB (cutB t) = v at *
 have h2 : (checkE k key v != 0) = true := bne_iff_ne.2 hc
 clear hW h hc
 go_enter Tryz.func96, Tryz.ntmps96
 go_wp2_with fail
 refine HSP.out.mono ?_
 rintro e w1 ⟨rfl, hb⟩
 have HR := jD ((Stm.new w 0 ⟨#[]⟩ ⟨#[]⟩ 41).below hb)
 go_wp2_with fail
 refine (check_any k key v (w1.alloc (.cells #[.int .i64 k, .string key, .string v] 41)) hk8 hv8 (((HW.out.alloc _).below hb).alloc _)).mono ?_
 rintro e w2 ⟨rfl, hb2⟩
 obtain ⟨rl, r0, r1, r2, rf⟩ := (HR.out.below ((Below.refl _ _).alloc (nL _) (.cells #[.int .i64 k, .string key, .string v] 41))).below hb2
 have bel : Below w.heap.size w w2 := bel_trans ((bel_trans ((Below.refl _ _).alloc (nL _) _) hb).alloc (bel_trans ((Below.refl _ _).alloc (nL _) _) hb).size _) hb2
 go_wp2
 refine bodyPost_ret (v := .tuple #[.agg #[.int .i64 0, .string ⟨#[]⟩, .string ⟨#[]⟩], .int .i64 (checkE k key v)]) (by simp [results, Tryz.results96, go_sem, r0, r1, r2]) rfl ⟨rfl, ?_⟩
 repeat' (first | exact Below.refl _ _ | assumption | with_reducible refine below_drewN ?_ _ | with_reducible refine Below.drew ?_ | with_reducible refine Below.setCell ?_ ?_ _ | with_reducible refine Below.alloc ?_ ?_ _ | (simp; done) | (simp; omega))
theorem read_no (t : ByteArray) (w : World) (hW : Words w) (h : readE t ≠ 0) :
  Calls Tryz.prog 96 #[.string t] w fun e w' => e = .returned (.tuple #[.agg #[.int .i64 0, .string ⟨#[]⟩, .string ⟨#[]⟩], .int .i64 (readE t)]) ∧ Below w.heap.size w w' := by
 by_cases hl : 60 < t.size
 ·rw [readE_long hl]; exact read_long t w hl
 ·by_cases hs : splitE t = 0
  ·rw [readE_check hl hs] at h ⊢; exact read_check t w hW hl hs h
  ·rw [readE_split hl hs]; exact read_split t w hW hl hs
end Go.Proofs.YtpbaobmegomfpabGreatDoor
namespace Go.Proofs.YtpbaobmegomfpabGreatDoor
open Go.RowKit
theorem prep_read {v : ByteArray} (h : prepB v = true) : readE v = 0 ∧ (1 ≤ kindN (cutA v) ∧ kindN (cutA v) ≤ 11 ∧ kindN (cutA v) ≠ 8) ∧ (cutA (cutB v)).size ≤ 8 ∧ (cutB (cutB v)).size ≤ 60 := by
 have h38 := prepB_38 h
 unfold prepB at h
 simp only [Bool.and_eq_true, decide_eq_true_eq] at h
 have a4 := bndB_size h.2.2.1
 have a5 := plainV_size h.2.2.2
 refine ⟨?_, by omega, a4.2, by omega⟩
 rw [readE_check (by omega) h.1]
 refine checkE_ok (by omega) ?_ ?_
 ·rw [keyB_yes (by omega)]; exact h.2.2.1
 ·unfold valueB; rw [if_neg (by omega)]; exact h.2.2.2
theorem prep_of {k v : ByteArray} (h : checkE 11 k v = 0) : prepB v = true := by
 cases e : prepB v
 ·exfalso
  rw [checkE_value (by omega) (by unfold valueB; rw [if_pos rfl]; exact e)] at h
  cases h
 ·rfl
set_option maxHeartbeats 2000000 in
theorem exec_none (X S gR cR : Nat) (G C : Nat → Nat → Nat) (W : Wd) (i : Nat) (key : ByteArray) (w : World) (h : OwnD w X S gR cR G C W) (hw : WorldOk W) (hi : i < W.ss.length) (hat : atL W.ss[i].prep key = none) :
  Calls Tryz.prog 69 #[.pointer (some ⟨X, 0, none⟩), .int .i64 i, .string key] w fun e w' => e = .returned (ansV 4 tNotPrep) ∧ Below w.heap.size w w' := by
 have hz := worldOk_sz hw
 have hXw := h.box.lt
 have hSw := h.blk.lt
 have x1 := h.box.cell (j := 1) (by simp)
 simp only [gCZ, gCS] at x1
 unfold slc at x1
 have hii : (i : Int) < (W.ss.length : Int) := by omega
 have p1 : w.cell? ⟨S, i * 5 + 2, none⟩ = some (.slice (some ⟨G i 1, 0, none⟩) W.ss[i].prep.length (C i 1)) := h.cs i 1 hi (by omega)
 have b0 : Below w.heap.size w ((w.alloc (.cells #[.int .i64 0, .string ⟨#[]⟩, .int .i64 0] 46)).alloc (.cells #[.slice (some ⟨G i 1, 0, none⟩) W.ss[i].prep.length (C i 1)] 27)) := ((Below.refl _ _).alloc (nL _) _).alloc (by simp) _
 have X0 : RowTo ((w.alloc (.cells #[.int .i64 0, .string ⟨#[]⟩, .int .i64 0] 46)).alloc (.cells #[.slice (some ⟨G i 1, 0, none⟩) W.ss[i].prep.length (C i 1)] 27)) w.heap.size 46 3 [.int .i64 0, .string ⟨#[]⟩, .int .i64 0] := (RowTo.whole w #[.int .i64 0, .string ⟨#[]⟩, .int .i64 0] 46).alloc _
 have HL := jD ((h.list hz hi (j := 1) (by omega)).step b0)
 have HRI := jD ((pairsB_rising (hw.sess i hi).prep).1)
 have hF : findA [W.ss[i].prep] key = none := by simp only [findA, hat]
 have HF := jD (show Calls Tryz.prog 68 #[.string key, .slice (some ⟨w.heap.size + 1, 0, none⟩) 1 1] ((w.alloc (.cells #[.int .i64 0, .string ⟨#[]⟩, .int .i64 0] 46)).alloc (.cells #[.slice (some ⟨G i 1, 0, none⟩) W.ss[i].prep.length (C i 1)] 27)) (fun e w' => e = .returned (.agg #[.int .i64 3, .string ⟨#[]⟩, .int .i64 0]) ∧ Below ((w.alloc (.cells #[.int .i64 0, .string ⟨#[]⟩, .int .i64 0] 46)).alloc (.cells #[.slice (some ⟨G i 1, 0, none⟩) W.ss[i].prep.length (C i 1)] 27)).heap.size ((w.alloc (.cells #[.int .i64 0, .string ⟨#[]⟩, .int .i64 0] 46)).alloc (.cells #[.slice (some ⟨G i 1, 0, none⟩) W.ss[i].prep.length (C i 1)] 27)) w') by
  have q := find_any key (w.heap.size + 1) [W.ss[i].prep] (fun _ => .slice (some ⟨G i 1, 0, none⟩) W.ss[i].prep.length (C i 1)) ((w.alloc (.cells #[.int .i64 0, .string ⟨#[]⟩, .int .i64 0] 46)).alloc (.cells #[.slice (some ⟨G i 1, 0, none⟩) W.ss[i].prep.length (C i 1)] 27)) (by simp) (by simp) (fun n hn => by
   obtain rfl : n = 0 := by simp at hn; omega
   exact ⟨by simp [go_sem], HL.out, HRI.out⟩)
  rw [hF] at q
  exact q)
 have hzs : ((w.alloc (.cells #[.int .i64 0, .string ⟨#[]⟩, .int .i64 0] 46)).alloc (.cells #[.slice (some ⟨G i 1, 0, none⟩) W.ss[i].prep.length (C i 1)] 27)).heap.size = w.heap.size + 1 + 1 := by simp
 have H := jD h
 have HZ := jD hz
 have HW := jD hw
 have B0 := jD b0
 have HX0 := jD X0
 have HZS := jD hzs
 have HAT := jD hat
 clear h hz hw b0 X0 hzs hF hat
 go_enter Tryz.func69, Tryz.ntmps69
 go_wp2_with fail
 refine HF.out.mono ?_
 rintro e w1 ⟨rfl, hb1⟩
 have hs1 := hb1.size
 rw [HZS.out] at hs1
 have X1 := HX0.out.below hb1 HX0.out.lt
 have B1 := jD (bel_add' B0.out hb1 B0.out.size)
 have HX1 := jD X1
 clear hb1 X1
 go_wp2_with fail
 refine (failure_any tNotPrep _).mono ?_
 rintro e w2 ⟨rfl, hb2⟩
 have B2 := jD (show Below w.heap.size w w2 from bel_add' ((B1.out).alloc (by omega) _) hb2 (by simp; omega))
 have X2 : RowTo w2 w.heap.size 46 3 [.int .i64 0, .string ⟨#[]⟩, .int .i64 0] := (HX1.out.alloc _).below hb2 (by simp; omega)
 have r0 := X2.cell (j := 0) (by simp)
 have r1 := X2.cell (j := 1) (by simp)
 have r2 := X2.cell (j := 2) (by simp)
 have s0 := X2.frozen 0
 have s1 := X2.frozen 1
 have s2 := X2.frozen 2
 simp only [gCZ, gCS] at r0 r1 r2
 clear hb2 X2
 unfold ansV
 go_wp2
 refine bodyPost_ret (v := .agg #[.int .i64 4, .string tNotPrep, .int .i64 0]) (by simp [results, Tryz.results69, go_sem, r0, r1, r2]) rfl ⟨rfl, ?_⟩
 exact ((B2.out.setCell (by simp) _).setCell (by simp) _).setCell (by simp) _
set_option maxHeartbeats 2000000 in
theorem exec_some (base X S gR cR : Nat) (G C : Nat → Nat → Nat) (W : Wd) (i : Nat) (key t : ByteArray) (w : World) (h : OwnD w X S gR cR G C W) (lo : LoD base X S gR G W.ss.length) (hw : WorldOk W) (hb : base ≤ w.heap.size) (hi : i < W.ss.length) (hW : Words w) (hat : atL W.ss[i].prep key = some t) :
  Calls Tryz.prog 69 #[.pointer (some ⟨X, 0, none⟩), .int .i64 i, .string key] w (ExPost w base X S gR G W.ss.length (did1 W i (kindN (cutA t)) (cutA (cutB t)) (cutB (cutB t)))) := by
 obtain ⟨hre, ⟨hk1, hk2, hk8⟩, hkz, hvz⟩ := prep_read (v := t) (prep_of (k := key) (v := t) ((pairsB_rising (hw.sess i hi).prep).2.2 _ (atL_mem hat)))
 have HRE := jD hre
 have HWW := jD hW
 obtain ⟨r, hr⟩ : ∃ r, r = did1 W i (kindN (cutA t)) (cutA (cutB t)) (cutB (cutB t)) := ⟨_, rfl⟩
 rw [← hr]
 have HX := jD (show ∀ (w9 : World), OwnD w9 X S gR cR G C W → base ≤ w9.heap.size → Calls Tryz.prog 45 #[.pointer (some ⟨X, 0, none⟩), .int .i64 i, .agg #[.int .i64 (kindN (cutA t)), .string (cutA (cutB t)), .string (cutB (cutB t))]] w9 (ExPost w9 base X S gR G W.ss.length r) from fun w9 h9 hb9 => by
  rw [hr]
  exact execute_plain base X S gR cR G C W i _ _ _ w9 h9 lo hw hb9 hi hkz hvz (by omega) (by omega) (by omega))
 clear hre hr hk1 hk2 hk8 hkz hvz hW
 have hz := worldOk_sz hw
 have hXw := h.box.lt
 have hSw := h.blk.lt
 have x1 := h.box.cell (j := 1) (by simp)
 simp only [gCZ, gCS] at x1
 unfold slc at x1
 have hii : (i : Int) < (W.ss.length : Int) := by omega
 have p1 : w.cell? ⟨S, i * 5 + 2, none⟩ = some (.slice (some ⟨G i 1, 0, none⟩) W.ss[i].prep.length (C i 1)) := h.cs i 1 hi (by omega)
 have b0 : Below w.heap.size w ((w.alloc (.cells #[.int .i64 0, .string ⟨#[]⟩, .int .i64 0] 46)).alloc (.cells #[.slice (some ⟨G i 1, 0, none⟩) W.ss[i].prep.length (C i 1)] 27)) := ((Below.refl _ _).alloc (nL _) _).alloc (by simp) _
 have X0 : RowTo ((w.alloc (.cells #[.int .i64 0, .string ⟨#[]⟩, .int .i64 0] 46)).alloc (.cells #[.slice (some ⟨G i 1, 0, none⟩) W.ss[i].prep.length (C i 1)] 27)) w.heap.size 46 3 [.int .i64 0, .string ⟨#[]⟩, .int .i64 0] := (RowTo.whole w #[.int .i64 0, .string ⟨#[]⟩, .int .i64 0] 46).alloc _
 have HL := jD ((h.list hz hi (j := 1) (by omega)).step b0)
 have HRI := jD ((pairsB_rising (hw.sess i hi).prep).1)
 have hF : findA [W.ss[i].prep] key = some t := by simp only [findA, hat]
 have HF := jD (show Calls Tryz.prog 68 #[.string key, .slice (some ⟨w.heap.size + 1, 0, none⟩) 1 1] ((w.alloc (.cells #[.int .i64 0, .string ⟨#[]⟩, .int .i64 0] 46)).alloc (.cells #[.slice (some ⟨G i 1, 0, none⟩) W.ss[i].prep.length (C i 1)] 27)) (fun e w' => e = .returned (.agg #[.int .i64 2, .string t, .int .i64 0]) ∧ Below ((w.alloc (.cells #[.int .i64 0, .string ⟨#[]⟩, .int .i64 0] 46)).alloc (.cells #[.slice (some ⟨G i 1, 0, none⟩) W.ss[i].prep.length (C i 1)] 27)).heap.size ((w.alloc (.cells #[.int .i64 0, .string ⟨#[]⟩, .int .i64 0] 46)).alloc (.cells #[.slice (some ⟨G i 1, 0, none⟩) W.ss[i].prep.length (C i 1)] 27)) w') by
  have q := find_any key (w.heap.size + 1) [W.ss[i].prep] (fun _ => .slice (some ⟨G i 1, 0, none⟩) W.ss[i].prep.length (C i 1)) ((w.alloc (.cells #[.int .i64 0, .string ⟨#[]⟩, .int .i64 0] 46)).alloc (.cells #[.slice (some ⟨G i 1, 0, none⟩) W.ss[i].prep.length (C i 1)] 27)) (by simp) (by simp) (fun n hn => by
   obtain rfl : n = 0 := by simp at hn; omega
   exact ⟨by simp [go_sem], HL.out, HRI.out⟩)
  rw [hF] at q
  exact q)
 have hzs : ((w.alloc (.cells #[.int .i64 0, .string ⟨#[]⟩, .int .i64 0] 46)).alloc (.cells #[.slice (some ⟨G i 1, 0, none⟩) W.ss[i].prep.length (C i 1)] 27)).heap.size = w.heap.size + 1 + 1 := by simp
 have H := jD h
 have HZ := jD hz
 have HW := jD hw
 have B0 := jD b0
 have HX0 := jD X0
 have HZS := jD hzs
 have HAT := jD hat
 clear h hz hw b0 X0 hzs hF hat
 go_enter Tryz.func69, Tryz.ntmps69
 go_wp2_with fail
 refine HF.out.mono ?_
 rintro e w1 ⟨rfl, hb1⟩
 have hs1 := hb1.size
 rw [HZS.out] at hs1
 have X1 := HX0.out.below hb1 HX0.out.lt
 have B1 := jD (bel_add' B0.out hb1 B0.out.size)
 have HX1 := jD X1
 clear hb1 X1
 go_wp2_with fail
 refine (read_ok t _ (by first | exact HWW.out.below (B1.out.alloc (by omega) _) | exact HWW.out.below B1.out) HRE.out).mono ?_
 rintro e w2 ⟨rfl, hb2⟩
 generalize hkk : kindN (cutA t) = kk at *
 generalize cutA (cutB t) = aa at *
 generalize cutB (cutB t) = bb at *
 have B2 := jD (show Below w.heap.size w (w2.alloc (.cells #[.int .i64 kk, .string aa, .string bb] 41)) from (bel_add' (B1.out.alloc (by omega) _) hb2 (by simp; omega)).alloc (by have := hb2.size; simp at this; omega) _)
 have X2 := jD (show RowTo (w2.alloc (.cells #[.int .i64 kk, .string aa, .string bb] 41)) w.heap.size 46 3 [.int .i64 0, .string ⟨#[]⟩, .int .i64 0] from (((HX1.out.alloc _).below hb2 (by simp; omega)).alloc _))
 have HGG := jD (show ∀ i j, i < W.ss.length → j < 4 → w.heap.size ≠ G i j from fun i j hi hj => by have := (H.out.ls i j hi hj).row.lt; omega)
 have hgr := H.out.rows.row.lt
 have hs2 : w.heap.size < (w2.alloc (.cells #[.int .i64 kk, .string aa, .string bb] 41)).heap.size := X2.out.lt
 have HS2 := jD hs2
 clear hb2 hs2
 go_wp2_with fail
 refine (HX.out _ (H.out.kept B2.out) (by have := HS2.out; omega)).mono ?_
 rintro e wB hp
 obtain rfl := hp.1
 have RB := X2.out.same (hp.2.2.2 w.heap.size HS2.out (by omega) (by omega) (by omega) HGG.out)
 have HP := jD hp
 have r0 := RB.cell (j := 0) (by simp)
 have r1 := RB.cell (j := 1) (by simp)
 have r2 := RB.cell (j := 2) (by simp)
 have s0 := RB.frozen 0
 have s1 := RB.frozen 1
 have s2 := RB.frozen 2
 simp only [gCZ, gCS] at r0 r1 r2
 have HRB := jD RB
 clear hp RB
 unfold ansV
 go_wp2
 refine bodyPost_ret (v := .agg #[.int .i64 r.2.kind, .string r.2.text, .int .i64 0]) (by simp [results, Tryz.results69, go_sem, r0, r1, r2]) rfl ?_
 exact HP.out.laid B2.out hb (nL _) HRB.out _ _ _
end Go.Proofs.YtpbaobmegomfpabGreatDoor
namespace Go.Proofs.YtpbaobmegomfpabGreatDoor
open Go.RowKit
set_option maxHeartbeats 2000000 in
theorem execute_exec (base X S gR cR : Nat) (G C : Nat → Nat → Nat) (W : Wd) (i : Nat) (key val : ByteArray) (w : World) (h : OwnD w X S gR cR G C W) (lo : LoD base X S gR G W.ss.length) (hw : WorldOk W) (hb : base ≤ w.heap.size) (hi : i < W.ss.length) (hkz : key.size ≤ 8) (hvz : val.size ≤ 60) (hst : W.ss[i].st ≠ 2) (hW : Words w) :
  Calls Tryz.prog 45 #[.pointer (some ⟨X, 0, none⟩), .int .i64 i, .agg #[.int .i64 8, .string key, .string val]] w (ExPost w base X S gR G W.ss.length (didM W i 8 key val)) := by
 have hz := worldOk_sz hw
 have hXw := h.box.lt
 have hSw := h.blk.lt
 have x1 := h.box.cell (j := 1) (by simp)
 simp only [gCZ, gCS] at x1
 unfold slc at x1
 have c0 := h.st i hi
 have hii : (i : Int) < (W.ss.length : Int) := by omega
 have b0 : Below w.heap.size w ((w.alloc (.cells #[.int .i64 8, .string key, .string val] 41)).alloc (.cells #[.int .i64 0, .string ⟨#[]⟩, .int .i64 0] 46)) := ((Below.refl _ _).alloc (nL _) _).alloc (by simp) _
 have h0 := h.kept b0
 have X0 : RowTo ((w.alloc (.cells #[.int .i64 8, .string key, .string val] 41)).alloc (.cells #[.int .i64 0, .string ⟨#[]⟩, .int .i64 0] 46)) (w.heap.size + 1) 46 3 [.int .i64 0, .string ⟨#[]⟩, .int .i64 0] := by
  have := RowTo.whole (w.alloc (.cells #[.int .i64 8, .string key, .string val] 41)) #[.int .i64 0, .string ⟨#[]⟩, .int .i64 0] 46
  simpa using this
 have hzs : ((w.alloc (.cells #[.int .i64 8, .string key, .string val] 41)).alloc (.cells #[.int .i64 0, .string ⟨#[]⟩, .int .i64 0] 46)).heap.size = w.heap.size + 1 + 1 := by simp
 have hgr := h.rows.row.lt
 have hgg : ∀ i j, i < W.ss.length → j < 4 → w.heap.size + 1 ≠ G i j := fun i j hi hj => by have := (h.ls i j hi hj).row.lt; omega
 obtain ⟨r, hr⟩ : ∃ r, r = didM W i 8 key val := ⟨_, rfl⟩
 rw [← hr]
 have hbs : base ≤ ((w.alloc (.cells #[.int .i64 8, .string key, .string val] 41)).alloc (.cells #[.int .i64 0, .string ⟨#[]⟩, .int .i64 0] 46)).heap.size := by omega
 have HC := jD (show Calls Tryz.prog 69 #[.pointer (some ⟨X, 0, none⟩), .int .i64 i, .string key] ((w.alloc (.cells #[.int .i64 8, .string key, .string val] 41)).alloc (.cells #[.int .i64 0, .string ⟨#[]⟩, .int .i64 0] 46)) (ExPost ((w.alloc (.cells #[.int .i64 8, .string key, .string val] 41)).alloc (.cells #[.int .i64 0, .string ⟨#[]⟩, .int .i64 0] 46)) base X S gR G W.ss.length r) by
  rw [hr]
  rw [show didM W i 8 key val = (match atL W.ss[i].prep key with | none => (W, no' tNotPrep) | some t => did1 W i (kindN (cutA t)) (cutA (cutB t)) (cutB (cutB t))) by unfold didM; simp only [getD_at hi]; rw [if_pos trivial, if_neg hst]; cases atL W.ss[i].prep key <;> rfl]
  cases hat : atL W.ss[i].prep key
  ·exact (exec_none X S gR cR G C W i key _ h0 hw hi hat).mono fun e w' hh => ExPost.same h0 lo hz hbs hh.1 hh.2
  ·exact exec_some base X S gR cR G C W i key _ _ h0 lo hw hbs hi (hW.below b0) hat)
 have H := jD h
 have HZ := jD hz
 have HW := jD hw
 have B0 := jD b0
 have HX0 := jD X0
 have HZS := jD hzs
 have HG := jD hgg
 have HR := jD hr
 clear h hz hw b0 X0 hzs hgg hr h0 hbs
 have e2 : (W.ss[i].st == 2) = false := beq_eq_false_iff_ne.2 hst
 ·skip
  go_enter Tryz.func45, Tryz.ntmps45
  go_wp2_with fail
  refine HC.out.mono ?_
  rintro e wB hp
  obtain rfl := hp.1
  have RB := HX0.out.same (hp.2.2.2 (w.heap.size + 1) (by rw [HZS.out]; omega) (by omega) (by omega) (by omega) HG.out)
  have HP := jD hp
  have r0 := RB.cell (j := 0) (by simp)
  have r1 := RB.cell (j := 1) (by simp)
  have r2 := RB.cell (j := 2) (by simp)
  have s0 := RB.frozen 0
  have s1 := RB.frozen 1
  have s2 := RB.frozen 2
  simp only [gCZ, gCS] at r0 r1 r2
  have HRB := jD RB
  clear hp RB
  unfold ansV
  go_wp2
  refine bodyPost_ret (v := .agg #[.int .i64 r.2.kind, .string r.2.text, .int .i64 0]) (by simp [results, Tryz.results45, go_sem, r0, r1, r2]) rfl ?_
  exact HP.out.laid B0.out hb (by omega) HRB.out _ _ _
theorem execute_any (base X S gR cR : Nat) (G C : Nat → Nat → Nat) (W : Wd) (i : Nat) (k : Int) (key val : ByteArray) (w : World) (h : OwnD w X S gR cR G C W) (lo : LoD base X S gR G W.ss.length) (hw : WorldOk W) (hb : base ≤ w.heap.size) (hi : i < W.ss.length) (hg : checkE k key val = 0) (hW : Words w) :
  Calls Tryz.prog 45 #[.pointer (some ⟨X, 0, none⟩), .int .i64 i, .agg #[.int .i64 k, .string key, .string val]] w (ExPost w base X S gR G W.ss.length (didM W i k key val)) := by
 have g := good_of hg
 by_cases h8 : k = 8
 ·subst h8
  by_cases hst : W.ss[i].st = 2
  ·have q := execute_failed base X S gR cR G C W i 8 key val w h lo hw hb hi g.key8 g.v60 hst (by omega)
   rw [show didM W i 8 key val = did1 W i 8 key val by rw [show did1 W i 8 key val = (W, no' tFailed) by unfold did1; simp only [getD_at hi]; rw [if_pos ⟨hst, by omega⟩]]; unfold didM; simp only [getD_at hi]; rw [if_pos trivial, if_pos hst]]
   exact q
  ·exact execute_exec base X S gR cR G C W i key val w h lo hw hb hi g.key8 g.v60 hst hW
 ·rw [show didM W i k key val = did1 W i k key val by unfold didM; rw [if_neg h8]]
  exact execute_plain base X S gR cR G C W i k key val w h lo hw hb hi g.key8 g.v60 g.lo g.hi h8
end Go.Proofs.YtpbaobmegomfpabGreatDoor
namespace Go.Proofs.YtpbaobmegomfpabGreatDoor
open Go.RowKit Go.Maps Go.WideMaps
theorem key_string {key : Value} {l : Lit} (h : keyOf Tryz.prog 9 key = some l) : ∃ s, key = .string s ∧ l = kl s := by
 cases key <;> simp [keyOf, Tryz.underlying9, mapKey] at h
 exact ⟨_, rfl, h.2.symm⟩
def FitsRel (w : World) (W : Wd) (b r n : Nat) (D : DataW Unit) (wr : World) : Prop :=
 ∃ left cnt, wr.ranges Tryz.prog 9 (plainElem Tryz.prog 3) b r n D left cnt ∧ (∀ key, Maps.has D (kl key) = true → left (kl key) = true ∨ cntL (W.ss.flatMap (·.wr)) key ≤ 1) ∧ Below w.heap.size w wr
set_option maxHeartbeats 4000000 in
theorem rowsFit_any (r s : Value) (W : Wd) (w : World) (hW : Wld w w.heap.size r s W) (hr100 : W.rows.length ≤ 100) (hrise : risingB W.rows = true) (h8 : W.ss.length ≤ 8) (hw100 : ∀ i (hi : i < W.ss.length), W.ss[i].wr.length ≤ 100) :
  Calls Tryz.prog 92 #[.agg #[r, s]] w fun e w' => e = .returned (.bool (cntOk W && decide ((allL W).length ≤ 100))) ∧ Below w.heap.size w w' := by
 have HWW := jD hW
 obtain ⟨A, c, rfl, hc⟩ := hW.sess.form
 obtain ⟨D, d, rfl, hd⟩ := hW.rows.form
 have HN := jD hw100
 have HI := jD hrise
 clear hw100 hrise hW
 have b0 : Below w.heap.size w (w.alloc (.cells #[.slice D W.rows.length d, .slice A W.ss.length c] 39)) := (Below.refl _ _).alloc (nL _) _
 go_enter Tryz.func92, Tryz.ntmps92
 go_wp2_with fail
 refine (countWriters_any _ _ W _ (HWW.out.step b0) hr100 HI.out h8 HN.out).mono ?_
 rintro e w1 ⟨b, n, M, rfl, hown, hmap, hn, hb, hb1⟩
 have HB := jD (bel_add' b0 hb1 b0.size)
 have HM := jD hmap
 have HO := jD hown
 have hbw : w.heap.size ≤ b := by have := b0.size; omega
 clear hown hmap hb1
 go_wp2_with (first | (at_range; refine wpList_range_own _ rfl _ 162 rfl 9 3 strLaw Tryz.underlying162 _ b n M rfl HO.out ?_; intro w0 hrg0 hg0 hs0) | go_in)
 go_frame
 have HR0 := jD hrg0
 have HB0 := jD (HB.out.grown hg0 HB.out.size (fun k hk => by cases hk))
 have hrr : w.heap.size ≤ w1.heap.size := HB.out.size
 clear hrg0 hg0 hs0 HO
 go_loopw [5] (fun _ wr => FitsRel w W b w1.heap.size n M wr) (fun _ wr => wr.rangeLeft b w1.heap.size)
 case atStart => exact ⟨_, _, HR0.out, fun key h => .inl h, HB0.out⟩
 case round =>
  clear HR0 HB0
  obtain ⟨left, cnt, hrg, hok, bel⟩ := hrel
  have HG := jD hrg
  have HK := jD hok
  have HB1 := jD bel
  clear hrg hok bel
  go_wp2_with (first | (at_next; refine wpList_next_ranges _ rfl _ rfl 9 strLaw (plainElem Tryz.prog 3) Value.string (Value.int .i64) (fun key l h => (by obtain ⟨x, hx, _⟩ := key_string h; exact ⟨x, hx⟩)) (fun v y hv => (by obtain ⟨q, hq, _⟩ := plainElem_int_inv Tryz.underlying3 hv; exact ⟨q, hq⟩)) b w1.heap.size n _ _ _ rfl HG.out ?_ ?_) | go_in)
  ·intro hc0 hl0
   have HF := jD (cntOk_yes (W := W) (fun key => by
    cases hh : Maps.has M (kl key)
    ·have h1 := HM.out.at_ key
     rw [atKey_of_not_has hh] at h1
     have := lit_inj h1
     omega
    ·rcases HK.out key hh with h | h
     ·rw [hl0] at h; cases h
     ·exact h))
   have HZ := jD HM.out.size
   clear hc0 hl0
   go_wp2_with (first | (at_len; refine wpList_len_own _ rfl _ 162 rfl 9 3 Tryz.underlying162 _ b n M rfl HG.out.owns ?_) | go_in)
   go_ret
   refine ⟨?_, HB1.out⟩
   rw [HF.out, HZ.out, Bool.true_and]
   simp
   omega
  ·intro x q l y yp w2 cnt2 hkey hlx hval hat hrg2 hlt2 hg2 hs2 hen
   obtain ⟨x', ex, rfl⟩ := key_string hkey
   obtain rfl : x = x' := by injection ex
   obtain ⟨q', eq', hy, _⟩ := plainElem_int_inv Tryz.underlying3 hval
   obtain rfl : q = q' := by injection eq'
   have hq : q = (cntL (W.ss.flatMap (·.wr)) x : Int) := by
    have h1 := hat (.lit (.int .i64 0))
    rw [HM.out.at_ x, (Prod.mk.inj hy).1] at h1
    exact (lit_inj h1).symm
   subst hq
   have HH := jD hrg2
   have HB2 := jD (HB1.out.grown hg2 HB1.out.size (fun k hk => by injection hk with hk; omega))
   have HLQ := jD (show wr.rangeLeft b w1.heap.size = cnt from HG.out.left_eq)
   clear hrg2 hg2 hs2 hkey hlx hval hat ex eq' hy
   by_cases hgt : 1 < cntL (W.ss.flatMap (·.wr)) x
   ·have HP := jD (cntOk_no hgt)
    have e1 : decide ((1 : Int) < (cntL (W.ss.flatMap (·.wr)) x : Int)) = true := decide_eq_true (by omega)
    have e2 : decide (1 < cntL (W.ss.flatMap (·.wr)) x) = true := decide_eq_true hgt
    go_wp2
    go_ret
    exact ⟨by rw [HP.out]; rfl, HB2.out⟩
   ·have e1 : decide ((1 : Int) < (cntL (W.ss.flatMap (·.wr)) x : Int)) = false := decide_eq_false (by omega)
    have e2 : decide (1 < cntL (W.ss.flatMap (·.wr)) x) = false := decide_eq_false hgt
    have HX := jD hgt
    clear hgt
    go_wp2
    go_roundw
    case rel =>
     refine ⟨_, _, HH.out, fun key hk => ?_, HB2.out⟩
     by_cases e : key = x
     ·subst e; exact .inr (by have := HX.out; omega)
     ·rcases HK.out key hk with h | h
      ·left; rw [h, sameKey_ne (kl_ne e)]; rfl
      ·exact .inr h
    case measure => rw [HH.out.left_eq, HLQ.out]; exact hlt2
end Go.Proofs.YtpbaobmegomfpabGreatDoor
namespace Go.Proofs.YtpbaobmegomfpabGreatDoor
open Go.RowKit
end Go.Proofs.YtpbaobmegomfpabGreatDoor
