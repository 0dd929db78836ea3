/-
  Texts of the proof, one behind the other: Say4, Say5, Say6, Stm, Say12.
-/
import Derived.Test.YtpbaobmegomfpabGreatDoorRows
import Derived.Test.YtpbaobmegomfpabGreatDoorM1
import Derived.WalkKit
import Derived.WalkSpells
import Derived.WalkLawsBesides
import Derived.Deep.QuietTactic
import Derived.BigQuiet
import Derived.Lib.Hide
import Derived.Lib.Bytealg
import Derived.IntWalk
import Derived.Test.YtpbaobmegomfpabGreatDoorM14
import Derived.Test.YtpbaobmegomfpabGreatDoorM4
import Derived.Deep.RegionHeld3
import Derived.Deep.RegionWith
set_option linter.unusedVariables false
set_option linter.unusedSimpArgs false
set_option maxRecDepth 100000
open List renaming getElem_toArray → gTA, getElem_cons_zero → gCZ, getElem_cons_succ → gCS, setIfInBounds_toArray → sTA, set_cons_zero → sCZ, set_cons_succ → sCS
open Go.Lib renaming hid → jD
open Nat renaming le_refl → nL
namespace Go.Proofs.YtpbaobmegomfpabGreatDoor
open Go.RowKit
structure Words (w : World) : Prop where
 room : 1 < w.heap.size
 cell : ∀ k, k ≤ 11 → w.cell? ⟨1, k, none⟩ = some (.string (wordAt k))
theorem Words.below {w w' : World} (h : Words w) (hb : Below w.heap.size w w') : Words w' :=
 ⟨Nat.lt_of_lt_of_le h.room hb.size, fun k hk => (hb.cell (p := ⟨1, k, none⟩) h.room).trans (h.cell k hk)⟩
theorem Words.alloc {w : World} (h : Words w) (o : Obj) : Words (w.alloc o) := h.below ((Below.refl _ _).alloc (nL _) _)
theorem Words.drewN {w : World} (h : Words w) (n : Nat) : Words (w.drewN n) := h.below (below_drewN (Below.refl _ _) n)
theorem bel_trans {a b c : World} (h : Below a.heap.size a b) (k : Below b.heap.size b c) : Below a.heap.size a c := h.trans (k.mono h.size)
set_option maxHeartbeats 400000 in
theorem indexByte_any (s : ByteArray) (w : World) :
  Calls Tryz.prog 151 #[.string s, .int .u8 32] w fun e w' => e = .returned (.int .i64 (Lib.indexByte s.data.toList 32)) ∧ w = w' := by
 go_enter Tryz.func151, Tryz.ntmps151
 go_wp2
 rw [run_callFunc_extern Tryz.func155 (by kernel_rfl) (by kernel_rfl) (by kernel_rfl) (e := Extern.BytealgIndexByte.indexByte) (by kernel_rfl), Lib.run_indexByteString]
 simp only [Result.andThen]
 rw [Oper.upon_value]
 go_wp2
 go_ret
 exact ⟨rfl, rfl⟩
set_option maxHeartbeats 400000 in
theorem index_any (s : ByteArray) (w : World) (hs : s.size ≤ maxLen) :
  Calls Tryz.prog 148 #[.string s, .string ⟨#[32]⟩] w fun e w' => e = .returned (.int .i64 (Lib.indexByte s.data.toList 32)) ∧ w = w' := by
 unfold maxLen at hs
 go_enter Tryz.func148, Tryz.ntmps148
 go_wp2_with (go_at_call 151; refine (indexByte_any s _).mono ?_; rintro e w' ⟨rfl, rfl⟩)
 ·have h : ([32] == s.toList) = true := by assumption
  have e : s.data.toList = [32] := by rw [← Lib.toList_data]; exact (beq_iff_eq.1 h).symm
  go_ret
  exact ⟨by rw [e]; rfl, rfl⟩
 ·go_ret
  exact ⟨rfl, rfl⟩
set_option maxHeartbeats 400000 in
theorem sliteCut_any (s : ByteArray) (w : World) (hs : s.size ≤ maxLen) :
  Calls Tryz.prog 142 #[.string s, .string ⟨#[32]⟩] w fun e w' => e = .returned (.tuple #[.string (cutA s), .string (cutB s), .bool (cutF s)]) ∧ ∃ n, w' = w.drewN n := by
 have hix := cutI_index s
 have hle := cutI_le s
 by_cases hf : cutI s < s.size
 ·have hF : cutF s = true := decide_eq_true hf
  rw [hF, if_pos rfl] at hix
  rw [hF]
  have hI := jD hix
  clear hix hF
  have hA := jD (show cutA s = s.extract 0 (cutI s) from rfl)
  have hB := jD (show cutB s = s.extract (cutI s + 1) s.size from rfl)
  generalize cutA s = A at hA ⊢
  generalize cutB s = B at hB ⊢
  generalize cutI s = i at *
  unfold maxLen at hs
  have c1 : (0 : Int) ≤ (i : Int) := by omega
  have c2 : (i : Int) ≤ (s.size : Int) := by omega
  have c3 : (0 : Int) ≤ (i : Int) + 1 := by omega
  have c4 : (i : Int) + 1 ≤ (s.size : Int) := by omega
  have c5 : IntKind.i64.wrap ((i : Int) + 1) = (i : Int) + 1 := IntWalk.i64_in _ (by omega)
  have c6 : ((i : Int) + 1).toNat = i + 1 := by omega
  go_enter Tryz.func142, Tryz.ntmps142
  go_wp2_with (go_at_call 148; refine (index_any s _ (by unfold maxLen; omega)).mono ?_; rw [hI.out]; rintro e w' ⟨rfl, rfl⟩)
  go_quiet (fail)
  go_wp2
  go_ret3
  exact ⟨by rw [hA.out, hB.out]; rfl, nq, rfl⟩
 ·have hF : cutF s = false := decide_eq_false hf
  have he : cutI s = s.size := by omega
  rw [hF, if_neg (by decide)] at hix
  rw [hF, cutA_all he, cutB_none he]
  have hI := jD hix
  clear hix hF he hf
  go_enter Tryz.func142, Tryz.ntmps142
  go_wp2_with (go_at_call 148; refine (index_any s _ hs).mono ?_; rw [hI.out]; rintro e w' ⟨rfl, rfl⟩)
  go_ret3
  exact ⟨rfl, 0, rfl⟩
theorem cut_any (s : ByteArray) (w : World) (hs : s.size ≤ maxLen) :
  Calls Tryz.prog 135 #[.string s, .string ⟨#[32]⟩] w fun e w' => e = .returned (.tuple #[.string (cutA s), .string (cutB s), .bool (cutF s)]) ∧ ∃ n, w' = w.drewN n := by
 go_enter Tryz.func135, Tryz.ntmps135
 go_wp2_with fail
 refine (sliteCut_any s _ hs).mono ?_
 rintro e w' ⟨rfl, n, rfl⟩
 go_wp2
 go_ret3
 exact ⟨rfl, n, rfl⟩
set_option maxHeartbeats 400000 in
theorem kindOf_any (s : ByteArray) (w : World) (hW : Words w) :
  Calls Tryz.prog 136 #[.string s] w fun e w' => e = .returned (.int .i64 (kindN s)) ∧ w = w' := by
 have HW := jD hW
 clear hW
 go_enter Tryz.func136, Tryz.ntmps136
 go_wp2
 go_loop [3] (fun c => ∃ k : Nat, 1 ≤ k ∧ k ≤ 12 ∧ c = .int .i64 k ∧ Hid (∀ j, 1 ≤ j → j < k → wordL j ≠ s.data.toList)) (fun c => 12 - (intOf c).toNat)
 case atStart => exact ⟨1, by omega, by omega, rfl, fun j h1 h => by omega⟩
 case round =>
  obtain ⟨k, hk1, hk, rfl, hall⟩ := hrel
  by_cases hlt : k ≤ 11
  ·have hc := HW.out.cell k hlt
   have hwl := jD (wordAt_toList k)
   go_wp2
   ·have h : ((wordAt k).toList == s.toList) = true := by assumption
    rw [Lib.toList_data, Lib.toList_data, hwl.out, beq_iff_eq] at h
    have hk := kindN_hit hk1 hlt h
    go_ret
    exact ⟨ret_int (by rw [hk]), rfl⟩
   ·have h : ((wordAt k).toList == s.toList) = false := by assumption
    rw [Lib.toList_data, Lib.toList_data, hwl.out, beq_eq_false_iff_ne] at h
    go_round
    case rel =>
     refine ⟨k + 1, by omega, by omega, by go_num, fun j h1 hjk => ?_⟩
     by_cases e : j = k
     ·subst e; exact h
     ·exact hall.out j h1 (by omega)
    case measure => simp [intOf]; omega
  ·have hk := jD (kindN_none (fun j h1 h2 => hall.out j h1 (by omega)))
   go_wp2
   go_ret
   exact ⟨ret_int (by rw [hk.out]; rfl), rfl⟩
set_option maxHeartbeats 400000 in
theorem split_kind (s : ByteArray) (w : World) (hs : s.size ≤ maxLen) (hW : Words w) (h : kindN (cutA s) = 0) :
  Calls Tryz.prog 117 #[.string s] w fun e w' => e = .returned (.tuple #[.agg #[.int .i64 0, .string ⟨#[]⟩, .string ⟨#[]⟩], .int .i64 3]) ∧ Below w.heap.size w w' := by
 have HW := jD hW
 have H := jD h
 clear hW h
 go_enter Tryz.func117, Tryz.ntmps117
 go_wp2_with fail
 refine (cut_any s _ hs).mono ?_
 rintro e w1 ⟨rfl, n, rfl⟩
 go_wp2_with fail
 refine (kindOf_any (cutA s) _ ((HW.out.alloc _).drewN n)).mono ?_
 rw [H.out]
 rintro e w2 ⟨rfl, rfl⟩
 go_wp2
 refine bodyPost_ret (v := .tuple #[.agg #[.int .i64 0, .string ⟨#[]⟩, .string ⟨#[]⟩], .int .i64 3]) (by simp [results, Tryz.results117, go_sem]) rfl ⟨rfl, ?_⟩
 repeat' (first | exact Below.refl _ _ | assumption | with_reducible refine below_drewN ?_ _ | with_reducible refine Below.drew ?_ | with_reducible refine Below.setCell ?_ ?_ _ | with_reducible refine Below.alloc ?_ ?_ _ | (simp; done) | (simp; omega))
set_option maxHeartbeats 400000 in
theorem split_a (s : ByteArray) (w : World) (hs : s.size ≤ maxLen) (hW : Words w) (h : kindN (cutA s) ≠ 0) (h1 : cutF s = true) (h2 : (cutA (cutB s)).toList.isEmpty = true) :
  Calls Tryz.prog 117 #[.string s] w fun e w' => e = .returned (.tuple #[.agg #[.int .i64 0, .string ⟨#[]⟩, .string ⟨#[]⟩], .int .i64 4]) ∧ Below w.heap.size w w' := by
 have HW := jD hW
 have hk0 : ((kindN (cutA s) : Int) == 0) = false := beq_eq_false_iff_ne.2 (by omega)
 have hs2 : (cutB s).size ≤ maxLen := by rw [cutB_size]; omega
 clear hW h
 go_enter Tryz.func117, Tryz.ntmps117
 go_wp2_with fail
 refine (cut_any s _ hs).mono ?_
 rintro e w1 ⟨rfl, n, rfl⟩
 go_wp2_with fail
 refine (kindOf_any (cutA s) _ ((HW.out.alloc _).drewN n)).mono ?_
 rintro e w2 ⟨rfl, rfl⟩
 go_wp2_with fail
 refine (cut_any (cutB s) _ hs2).mono ?_
 rintro e w3 ⟨rfl, m, rfl⟩
 go_wp2
 refine bodyPost_ret (v := .tuple #[.agg #[.int .i64 0, .string ⟨#[]⟩, .string ⟨#[]⟩], .int .i64 4]) (by simp [results, Tryz.results117, go_sem]) rfl ⟨rfl, ?_⟩
 repeat' (first | exact Below.refl _ _ | assumption | with_reducible refine below_drewN ?_ _ | with_reducible refine Below.drew ?_ | with_reducible refine Below.setCell ?_ ?_ _ | with_reducible refine Below.alloc ?_ ?_ _ | (simp; done) | (simp; omega))
set_option maxHeartbeats 400000 in
theorem split_b (s : ByteArray) (w : World) (hs : s.size ≤ maxLen) (hW : Words w) (h : kindN (cutA s) ≠ 0) (h1 : cutF s = false) (h3 : cutF (cutB s) = false) :
  Calls Tryz.prog 117 #[.string s] w fun e w' => e = .returned (.tuple #[.agg #[.int .i64 (kindN (cutA s)), .string (cutA (cutB s)), .string (cutB (cutB s))], .int .i64 0]) ∧ Below w.heap.size w w' := by
 have HW := jD hW
 have hk0 : ((kindN (cutA s) : Int) == 0) = false := beq_eq_false_iff_ne.2 (by omega)
 have hs2 : (cutB s).size ≤ maxLen := by rw [cutB_size]; omega
 clear hW h
 go_enter Tryz.func117, Tryz.ntmps117
 go_wp2_with fail
 refine (cut_any s _ hs).mono ?_
 rintro e w1 ⟨rfl, n, rfl⟩
 go_wp2_with fail
 refine (kindOf_any (cutA s) _ ((HW.out.alloc _).drewN n)).mono ?_
 rintro e w2 ⟨rfl, rfl⟩
 go_wp2_with fail
 refine (cut_any (cutB s) _ hs2).mono ?_
 rintro e w3 ⟨rfl, m, rfl⟩
 go_wp2
 refine bodyPost_ret (v := .tuple #[.agg #[.int .i64 (kindN (cutA s)), .string (cutA (cutB s)), .string (cutB (cutB s))], .int .i64 0]) (by simp [results, Tryz.results117, go_sem]) rfl ⟨rfl, ?_⟩
 repeat' (first | exact Below.refl _ _ | assumption | with_reducible refine below_drewN ?_ _ | with_reducible refine Below.drew ?_ | with_reducible refine Below.setCell ?_ ?_ _ | with_reducible refine Below.alloc ?_ ?_ _ | (simp; done) | (simp; omega))
set_option maxHeartbeats 400000 in
theorem split_c (s : ByteArray) (w : World) (hs : s.size ≤ maxLen) (hW : Words w) (h : kindN (cutA s) ≠ 0) (h1 : cutF s = true) (h2 : (cutA (cutB s)).toList.isEmpty = false) (h3 : cutF (cutB s) = false) :
  Calls Tryz.prog 117 #[.string s] w fun e w' => e = .returned (.tuple #[.agg #[.int .i64 (kindN (cutA s)), .string (cutA (cutB s)), .string (cutB (cutB s))], .int .i64 0]) ∧ Below w.heap.size w w' := by
 have HW := jD hW
 have hk0 : ((kindN (cutA s) : Int) == 0) = false := beq_eq_false_iff_ne.2 (by omega)
 have hs2 : (cutB s).size ≤ maxLen := by rw [cutB_size]; omega
 clear hW h
 go_enter Tryz.func117, Tryz.ntmps117
 go_wp2_with fail
 refine (cut_any s _ hs).mono ?_
 rintro e w1 ⟨rfl, n, rfl⟩
 go_wp2_with fail
 refine (kindOf_any (cutA s) _ ((HW.out.alloc _).drewN n)).mono ?_
 rintro e w2 ⟨rfl, rfl⟩
 go_wp2_with fail
 refine (cut_any (cutB s) _ hs2).mono ?_
 rintro e w3 ⟨rfl, m, rfl⟩
 go_wp2
 refine bodyPost_ret (v := .tuple #[.agg #[.int .i64 (kindN (cutA s)), .string (cutA (cutB s)), .string (cutB (cutB s))], .int .i64 0]) (by simp [results, Tryz.results117, go_sem]) rfl ⟨rfl, ?_⟩
 repeat' (first | exact Below.refl _ _ | assumption | with_reducible refine below_drewN ?_ _ | with_reducible refine Below.drew ?_ | with_reducible refine Below.setCell ?_ ?_ _ | with_reducible refine Below.alloc ?_ ?_ _ | (simp; done) | (simp; omega))
set_option maxHeartbeats 400000 in
theorem split_d (s : ByteArray) (w : World) (hs : s.size ≤ maxLen) (hW : Words w) (h : kindN (cutA s) ≠ 0) (h1 : cutF s = true) (h2 : (cutA (cutB s)).toList.isEmpty = false) (h3 : cutF (cutB s) = true) (h4 : (cutB (cutB s)).toList.isEmpty = true) :
  Calls Tryz.prog 117 #[.string s] w fun e w' => e = .returned (.tuple #[.agg #[.int .i64 0, .string ⟨#[]⟩, .string ⟨#[]⟩], .int .i64 4]) ∧ Below w.heap.size w w' := by
 have HW := jD hW
 have hk0 : ((kindN (cutA s) : Int) == 0) = false := beq_eq_false_iff_ne.2 (by omega)
 have hs2 : (cutB s).size ≤ maxLen := by rw [cutB_size]; omega
 clear hW h
 go_enter Tryz.func117, Tryz.ntmps117
 go_wp2_with fail
 refine (cut_any s _ hs).mono ?_
 rintro e w1 ⟨rfl, n, rfl⟩
 go_wp2_with fail
 refine (kindOf_any (cutA s) _ ((HW.out.alloc _).drewN n)).mono ?_
 rintro e w2 ⟨rfl, rfl⟩
 go_wp2_with fail
 refine (cut_any (cutB s) _ hs2).mono ?_
 rintro e w3 ⟨rfl, m, rfl⟩
 go_wp2
 refine bodyPost_ret (v := .tuple #[.agg #[.int .i64 0, .string ⟨#[]⟩, .string ⟨#[]⟩], .int .i64 4]) (by simp [results, Tryz.results117, go_sem]) rfl ⟨rfl, ?_⟩
 repeat' (first | exact Below.refl _ _ | assumption | with_reducible refine below_drewN ?_ _ | with_reducible refine Below.drew ?_ | with_reducible refine Below.setCell ?_ ?_ _ | with_reducible refine Below.alloc ?_ ?_ _ | (simp; done) | (simp; omega))
set_option maxHeartbeats 400000 in
theorem split_e (s : ByteArray) (w : World) (hs : s.size ≤ maxLen) (hW : Words w) (h : kindN (cutA s) ≠ 0) (h1 : cutF s = true) (h2 : (cutA (cutB s)).toList.isEmpty = false) (h3 : cutF (cutB s) = true) (h4 : (cutB (cutB s)).toList.isEmpty = false) :
  Calls Tryz.prog 117 #[.string s] w fun e w' => e = .returned (.tuple #[.agg #[.int .i64 (kindN (cutA s)), .string (cutA (cutB s)), .string (cutB (cutB s))], .int .i64 0]) ∧ Below w.heap.size w w' := by
 have HW := jD hW
 have hk0 : ((kindN (cutA s) : Int) == 0) = false := beq_eq_false_iff_ne.2 (by omega)
 have hs2 : (cutB s).size ≤ maxLen := by rw [cutB_size]; omega
 clear hW h
 go_enter Tryz.func117, Tryz.ntmps117
 go_wp2_with fail
 refine (cut_any s _ hs).mono ?_
 rintro e w1 ⟨rfl, n, rfl⟩
 go_wp2_with fail
 refine (kindOf_any (cutA s) _ ((HW.out.alloc _).drewN n)).mono ?_
 rintro e w2 ⟨rfl, rfl⟩
 go_wp2_with fail
 refine (cut_any (cutB s) _ hs2).mono ?_
 rintro e w3 ⟨rfl, m, rfl⟩
 go_wp2
 refine bodyPost_ret (v := .tuple #[.agg #[.int .i64 (kindN (cutA s)), .string (cutA (cutB s)), .string (cutB (cutB s))], .int .i64 0]) (by simp [results, Tryz.results117, go_sem]) rfl ⟨rfl, ?_⟩
 repeat' (first | exact Below.refl _ _ | assumption | with_reducible refine below_drewN ?_ _ | with_reducible refine Below.drew ?_ | with_reducible refine Below.setCell ?_ ?_ _ | with_reducible refine Below.alloc ?_ ?_ _ | (simp; done) | (simp; omega))
theorem split_ok (s : ByteArray) (w : World) (hs : s.size ≤ maxLen) (hW : Words w) (h : splitE s = 0) :
  Calls Tryz.prog 117 #[.string s] w fun e w' => e = .returned (.tuple #[.agg #[.int .i64 (kindN (cutA s)), .string (cutA (cutB s)), .string (cutB (cutB s))], .int .i64 0]) ∧ Below w.heap.size w w' := by
 obtain ⟨h0, hb⟩ := splitE_ok h
 unfold splitBad at hb
 cases h1 : cutF s
 ·exact split_b s w hs hW h0 h1 (cutF_none h1)
 ·rw [h1] at hb
  cases h2 : (cutA (cutB s)).toList.isEmpty
  ·rw [h2] at hb
   cases h3 : cutF (cutB s)
   ·exact split_c s w hs hW h0 h1 h2 h3
   ·rw [h3] at hb
    cases h4 : (cutB (cutB s)).toList.isEmpty
    ·exact split_e s w hs hW h0 h1 h2 h3 h4
    ·rw [h4] at hb; simp at hb
  ·rw [h2] at hb; simp at hb
theorem split_no (s : ByteArray) (w : World) (hs : s.size ≤ maxLen) (hW : Words w) (h : splitE s ≠ 0) :
  Calls Tryz.prog 117 #[.string s] w fun e w' => e = .returned (.tuple #[.agg #[.int .i64 0, .string ⟨#[]⟩, .string ⟨#[]⟩], .int .i64 (splitE s)]) ∧ Below w.heap.size w w' := by
 by_cases h0 : kindN (cutA s) = 0
 ·rw [splitE_kind h0]; exact split_kind s w hs hW h0
 ·have hb := splitE_bad h0 h
  rw [splitE_form h0 hb]
  unfold splitBad at hb
  cases h1 : cutF s
  ·rw [h1, cutF_none h1] at hb; simp at hb
  ·rw [h1] at hb
   cases h2 : (cutA (cutB s)).toList.isEmpty
   ·rw [h2] at hb
    cases h3 : cutF (cutB s)
    ·rw [h3] at hb; simp at hb
    ·rw [h3] at hb
     cases h4 : (cutB (cutB s)).toList.isEmpty
     ·rw [h4] at hb; simp at hb
     ·exact split_d s w hs hW h0 h1 h2 h3 h4
   ·exact split_a s w hs hW h0 h1 h2
theorem cell_new (w : World) (cs : Array Value) (t : TypeId) (i : Nat) (h : i < cs.size) : (w.alloc (.cells cs t)).cell? ⟨w.heap.size, i, none⟩ = some cs[i] := by
 rw [World.cell?_alloc_at _ _ _ _ rfl, Array.getElem?_eq_getElem h]
set_option maxHeartbeats 400000 in
theorem plainValueFits_any (k : Int) (key v : ByteArray) (w : World) (hv : v.size ≤ maxLen) :
  Calls Tryz.prog 108 #[.agg #[.int .i64 k, .string key, .string v]] w fun e w' => e = .returned (.bool (plainV k v)) ∧ Below w.heap.size w w' := by
 by_cases h : k = 9 ∨ k = 10
 ·rw [plainV_yes h]
  rcases h with rfl | rfl
  all_goals
   go_enter Tryz.func108, Tryz.ntmps108
   go_wp2_with fail
   refine (isValue_any v _ hv).mono ?_
   rintro e w1 ⟨rfl, hb⟩
   go_wp2
   go_ret
   exact ⟨rfl, bel_trans ((Below.refl _ _).alloc (nL _) _) hb⟩
 ·rw [plainV_no h]
  have h9 : (k == 9) = false := beq_eq_false_iff_ne.2 (by omega)
  have h10 : (k == 10) = false := beq_eq_false_iff_ne.2 (by omega)
  clear h
  go_enter Tryz.func108, Tryz.ntmps108
  go_wp2
  go_ret
  exact ⟨rfl, (Below.refl _ _).alloc (nL _) _⟩
set_option maxHeartbeats 1000000 in
theorem keyFits_any (k : Int) (key v : ByteArray) (w : World) (hk : key.size ≤ maxLen) :
  Calls Tryz.prog 84 #[.agg #[.int .i64 k, .string key, .string v]] w fun e w' => e = .returned (.bool (keyB k key)) ∧ Below w.heap.size w w' := by
 by_cases h : 6 ≤ k ∧ k ≤ 11
 ·rw [keyB_yes h]
  obtain rfl | rfl | rfl | rfl | rfl | rfl : k = 6 ∨ k = 7 ∨ k = 8 ∨ k = 9 ∨ k = 10 ∨ k = 11 := by omega
  all_goals
   clear h
   go_enter Tryz.func84, Tryz.ntmps84
   go_wp2_with fail
   refine (name_any key _ hk).mono ?_
   rintro e w1 ⟨rfl, hb⟩
   go_wp2
   go_ret
   exact ⟨rfl, bel_trans ((Below.refl _ _).alloc (nL _) _) hb⟩
 ·rw [keyB_no h]
  have h6 : (k == 6) = false := beq_eq_false_iff_ne.2 (by omega)
  have h7 : (k == 7) = false := beq_eq_false_iff_ne.2 (by omega)
  have h8 : (k == 8) = false := beq_eq_false_iff_ne.2 (by omega)
  have h9 : (k == 9) = false := beq_eq_false_iff_ne.2 (by omega)
  have h10 : (k == 10) = false := beq_eq_false_iff_ne.2 (by omega)
  have h11 : (k == 11) = false := beq_eq_false_iff_ne.2 (by omega)
  clear h
  go_enter Tryz.func84, Tryz.ntmps84
  go_wp2
  go_ret
  exact ⟨rfl, (Below.refl _ _).alloc (nL _) _⟩
set_option maxHeartbeats 1000000 in
theorem preparable_any (t : ByteArray) (w : World) (ht : t.size ≤ maxLen) (hW : Words w) :
  Calls Tryz.prog 107 #[.string t] w fun e w' => e = .returned (.bool (prepB t)) ∧ Below w.heap.size w w' := by
 have HW := jD hW
 clear hW
 by_cases h : splitE t = 0
 ·by_cases hk : kindN (cutA t) = 6 ∨ kindN (cutA t) = 7 ∨ kindN (cutA t) = 10
  ·rw [prepB_rest h hk]
   have H := jD h
   clear h
   have hs1 : (cutA (cutB t)).size ≤ maxLen := by rw [cutA_size]; have := cutI_le (cutB t); have := cutB_size t; omega
   have hs2 : (cutB (cutB t)).size ≤ maxLen := by rw [cutB_size]; have := cutB_size t; omega
   have hsp := jD (split_ok t w ht HW.out H.out)
   generalize cutA (cutB t) = key at *
   generalize cutB (cutB t) = v at *
   generalize kindN (cutA t) = k at *
   cases hn : bndB 97 122 8 key
   ·have HN := jD hn
    clear hn
    rcases hk with rfl | rfl | rfl
    all_goals
     go_enter Tryz.func107, Tryz.ntmps107
     go_wp2_with fail
     refine hsp.out.mono ?_
     rintro e w1 ⟨rfl, hb⟩
     go_wp2_with fail
     refine (name_any key _ hs1).mono ?_
     rw [HN.out]
     rintro e w2 ⟨rfl, hb2⟩
     go_wp2
     go_ret
     exact ⟨by rw [Bool.false_and]; rfl, bel_trans (hb.alloc hb.size _) hb2⟩
   ·have HN := jD hn
    clear hn
    rcases hk with rfl | rfl | rfl
    all_goals
     go_enter Tryz.func107, Tryz.ntmps107
     go_wp2_with fail
     refine hsp.out.mono ?_
     rintro e w1 ⟨rfl, hb⟩
     go_wp2_with fail
     refine (name_any key _ hs1).mono ?_
     rw [HN.out]
     rintro e w2 ⟨rfl, hb2⟩
     have c0 := (hb2.cell (p := ⟨w1.heap.size, 0, none⟩) (by simp)).trans (cell_new w1 _ _ 0 (by simp))
     have c1 := (hb2.cell (p := ⟨w1.heap.size, 1, none⟩) (by simp)).trans (cell_new w1 _ _ 1 (by simp))
     have c2 := (hb2.cell (p := ⟨w1.heap.size, 2, none⟩) (by simp)).trans (cell_new w1 _ _ 2 (by simp))
     simp only [gTA, gCZ, gCS] at c0 c1 c2
     go_wp2_with fail
     refine (plainValueFits_any _ key v _ hs2).mono ?_
     rintro e w3 ⟨rfl, hb3⟩
     go_wp2
     go_ret
     exact ⟨by rw [Bool.true_and]; rfl, bel_trans (bel_trans (hb.alloc hb.size _) hb2) hb3⟩
  ·rw [prepB_kind hk]
   have H := jD h
   clear h
   have hsp := jD (split_ok t w ht HW.out H.out)
   generalize cutA (cutB t) = key at *
   generalize cutB (cutB t) = v at *
   generalize kindN (cutA t) = k at *
   have h6 : ((k : Int) == 6) = false := beq_eq_false_iff_ne.2 (by omega)
   have h7 : ((k : Int) == 7) = false := beq_eq_false_iff_ne.2 (by omega)
   have h10 : ((k : Int) == 10) = false := beq_eq_false_iff_ne.2 (by omega)
   clear hk
   go_enter Tryz.func107, Tryz.ntmps107
   go_wp2_with fail
   refine hsp.out.mono ?_
   rintro e w1 ⟨rfl, hb⟩
   go_wp2
   go_ret
   exact ⟨rfl, hb.alloc hb.size _⟩
 ·rw [prepB_split h]
  have hsp := jD (split_no t w ht HW.out h)
  have hne : ((splitE t) != 0) = true := bne_iff_ne.2 h
  generalize splitE t = e0 at *
  clear h
  go_enter Tryz.func107, Tryz.ntmps107
  go_wp2_with fail
  refine hsp.out.mono ?_
  rintro e w1 ⟨rfl, hb⟩
  go_wp2
  go_ret
  exact ⟨rfl, hb.alloc hb.size _⟩
set_option maxHeartbeats 400000 in
theorem valueFits_any (k : Int) (key v : ByteArray) (w : World) (hv : v.size ≤ maxLen) (hW : Words w) :
  Calls Tryz.prog 85 #[.agg #[.int .i64 k, .string key, .string v]] w fun e w' => e = .returned (.bool (valueB k v)) ∧ Below w.heap.size w w' := by
 have HW := jD hW
 clear hW
 by_cases h : k = 11
 ·subst h
  go_enter Tryz.func85, Tryz.ntmps85
  go_wp2_with fail
  refine (preparable_any v _ hv (HW.out.alloc _)).mono ?_
  rintro e w1 ⟨rfl, hb⟩
  go_wp2
  go_ret
  exact ⟨rfl, bel_trans ((Below.refl _ _).alloc (nL _) _) hb⟩
 ·have hvb := jD (show valueB k v = plainV k v by unfold valueB; rw [if_neg h])
  have h11 : (k == 11) = false := beq_eq_false_iff_ne.2 h
  clear h
  go_enter Tryz.func85, Tryz.ntmps85
  go_wp2_with fail
  refine (plainValueFits_any k key v _ hv).mono ?_
  rintro e w1 ⟨rfl, hb⟩
  go_wp2
  go_ret
  exact ⟨by rw [hvb.out]; rfl, bel_trans ((Below.refl _ _).alloc (nL _) _) hb⟩
set_option maxHeartbeats 1000000 in
theorem check_any (k : Int) (key v : ByteArray) (w : World) (hk : key.size ≤ maxLen) (hv : v.size ≤ maxLen) (hW : Words w) :
  Calls Tryz.prog 58 #[.agg #[.int .i64 k, .string key, .string v]] w fun e w' => e = .returned (.int .i64 (checkE k key v)) ∧ Below w.heap.size w w' := by
 have HW := jD hW
 clear hW
 by_cases h : k < 1 ∨ 11 < k
 ·rw [checkE_kind h]
  rcases h with h | h
  ·go_enter Tryz.func58, Tryz.ntmps58
   go_wp2
   go_ret
   exact ⟨rfl, (Below.refl _ _).alloc (nL _) _⟩
  ·have h1 : decide (k < 1) = false := decide_eq_false (by omega)
   go_enter Tryz.func58, Tryz.ntmps58
   go_wp2
   go_ret
   exact ⟨rfl, (Below.refl _ _).alloc (nL _) _⟩
 ·have d1 : decide (k < 1) = false := decide_eq_false (by omega)
  have d2 : decide (11 < k) = false := decide_eq_false (by omega)
  cases h1 : keyB k key
  ·rw [checkE_key h h1]
   have H1 := jD h1
   clear h h1
   go_enter Tryz.func58, Tryz.ntmps58
   go_wp2_with fail
   refine (keyFits_any k key v _ hk).mono ?_
   rw [H1.out]
   rintro e w1 ⟨rfl, hb⟩
   go_wp2
   go_ret
   exact ⟨rfl, bel_trans ((Below.refl _ _).alloc (nL _) _) hb⟩
  ·have H1 := jD h1
   cases h2 : valueB k v
   all_goals
    first | rw [checkE_value h h2] | rw [checkE_ok h h1 h2]
    have H2 := jD h2
    clear h2 h h1
    go_enter Tryz.func58, Tryz.ntmps58
    go_wp2_with fail
    refine (keyFits_any k key v _ hk).mono ?_
    rw [H1.out]
    rintro e w1 ⟨rfl, hb⟩
    have c0 := (hb.cell (p := ⟨w.heap.size, 0, none⟩) (by simp)).trans (cell_new w _ _ 0 (by simp))
    have c1 := (hb.cell (p := ⟨w.heap.size, 1, none⟩) (by simp)).trans (cell_new w _ _ 1 (by simp))
    have c2 := (hb.cell (p := ⟨w.heap.size, 2, none⟩) (by simp)).trans (cell_new w _ _ 2 (by simp))
    simp only [gTA, gCZ, gCS] at c0 c1 c2
    have hW1 := jD ((HW.out.alloc _).below hb)
    go_wp2_with fail
    refine (valueFits_any k key v _ hv hW1.out).mono ?_
    rw [H2.out]
    rintro e w2 ⟨rfl, hb2⟩
    go_wp2
    go_ret
    exact ⟨rfl, bel_trans (bel_trans ((Below.refl _ _).alloc (nL _) _) hb) hb2⟩
structure Stm (w : World) (b : Nat) (k : Int) (x y : ByteArray) : Prop where
 lt : b < w.heap.size
 c0 : w.cell? ⟨b, 0, none⟩ = some (.int .i64 k)
 c1 : w.cell? ⟨b, 1, none⟩ = some (.string x)
 c2 : w.cell? ⟨b, 2, none⟩ = some (.string y)
 fz : ∀ i, w.frozen? ⟨b, i, none⟩ = false
theorem Stm.below {w w' : World} {b : Nat} {k : Int} {x y : ByteArray} (h : Stm w b k x y) (hb : Below w.heap.size w w') : Stm w' b k x y :=
 ⟨Nat.lt_of_lt_of_le h.lt hb.size, (hb.cell (p := ⟨b, 0, none⟩) h.lt).trans h.c0, (hb.cell (p := ⟨b, 1, none⟩) h.lt).trans h.c1, (hb.cell (p := ⟨b, 2, none⟩) h.lt).trans h.c2,
  fun i => (hb.frozen (p := ⟨b, i, none⟩) h.lt).trans (h.fz i)⟩
theorem Stm.other {w : World} {b b' i : Nat} {k : Int} {x y : ByteArray} {u : Value} (h : Stm w b k x y) (_ : b ≠ b') : Stm (w.setCell ⟨b', i, none⟩ u) b k x y := by
 obtain ⟨lt, c0, c1, c2, fz⟩ := h
 refine ⟨by simpa using lt, ?_, ?_, ?_, fun i => ?_⟩
 ·simp [go_sem, c0]
 ·simp [go_sem, c1]
 ·simp [go_sem, c2]
 ·simp [go_sem, fz]
theorem Stm.new (w : World) (k : Int) (x y : ByteArray) (t : TypeId) : Stm (w.alloc (.cells #[.int .i64 k, .string x, .string y] t)) w.heap.size k x y := by
 refine ⟨by simp, ?_, ?_, ?_, fun i => ?_⟩
 ·rw [cell_new _ _ _ 0 (by simp)]; rfl
 ·rw [cell_new _ _ _ 1 (by simp)]; rfl
 ·rw [cell_new _ _ _ 2 (by simp)]; rfl
 ·simp [go_sem]
theorem cell_set3 {w : World} {b R i : Nat} {u x y z : Value} (h : w.cell? ⟨b, i, none⟩ = some u) (hne : b ≠ R) :
  (((w.setCell ⟨R, 0, none⟩ x).setCell ⟨R, 1, none⟩ y).setCell ⟨R, 2, none⟩ z).cell? ⟨b, i, none⟩ = some u := by
 simp [go_sem, h]
set_option maxHeartbeats 1000000 in
theorem read_ok (t : ByteArray) (w : World) (hW : Words w) (h : readE t = 0) :
  Calls Tryz.prog 96 #[.string t] w fun e w' => e = .returned (.tuple #[.agg #[.int .i64 (kindN (cutA t)), .string (cutA (cutB t)), .string (cutB (cutB t))], .int .i64 0]) ∧ Below w.heap.size w w' := by
 have HW := jD hW
 clear hW
 have hl : ¬ 60 < t.size := fun hl => by rw [readE_long hl] at h; cases h
 have hsp : splitE t = 0 := Classical.byContradiction fun hs => by rw [readE_split hl hs] at h; exact hs h
 have hck := readE_check hl hsp
 rw [h] at hck
 have hd : decide (60 < (t.size : Int)) = false := decide_eq_false (by omega)
 have hg := good_of hck.symm
 have k8 := hg.key8
 have v60 := hg.v60
 have HSP := jD (split_ok t (w.alloc (.cells #[.int .i64 0, .string ⟨#[]⟩, .string ⟨#[]⟩] 41)) (by unfold maxLen; omega) (HW.out.alloc _) hsp)
 have HCK := jD hck
 clear hck hsp h hg
 generalize kindN (cutA t) = k at *
 generalize cutA (cutB t) = key at *
 generalize cutB (cutB t) = v at *
 go_enter Tryz.func96, Tryz.ntmps96
 go_wp2_with fail
 refine HSP.out.mono ?_
 rintro e w1 ⟨rfl, hb⟩
 have R := (Stm.new w 0 ⟨#[]⟩ ⟨#[]⟩ 41).below hb
 have HR := jD R
 clear R
 go_wp2_with fail
 have hc := check_any k key v (w1.alloc (.cells #[.int .i64 k, .string key, .string v] 41)) (by unfold maxLen; omega) (by unfold maxLen; omega) (((HW.out.alloc _).below hb).alloc _)
 rw [← HCK.out] at hc
 refine hc.mono ?_
 clear hc
 rintro e w2 ⟨rfl, hb2⟩
 have S2 := (Stm.new w1 k key v 41).below hb2
 have R2 := (HR.out.below ((Below.refl _ _).alloc (nL _) (.cells #[.int .i64 k, .string key, .string v] 41))).below hb2
 obtain ⟨sl, s0, s1, s2, sf⟩ := S2
 obtain ⟨rl, r0, r1, r2, rf⟩ := R2
 have b2 : Below w.heap.size w w2 := bel_trans ((bel_trans ((Below.refl _ _).alloc (nL _) _) hb).alloc (bel_trans ((Below.refl _ _).alloc (nL _) _) hb).size _) hb2
 have hne : w1.heap.size ≠ w.heap.size := by have := HR.out.lt; omega
 go_wp2
 go_region_held3 (fun wx => wx.cell? ⟨w1.heap.size, 0, none⟩ = some (.int .i64 k) ∧ wx.cell? ⟨w1.heap.size, 1, none⟩ = some (.string key) ∧ wx.cell? ⟨w1.heap.size, 2, none⟩ = some (.string v))
  (first | exact ⟨p0, p1, p2⟩ | exact ⟨s0, s1, s2⟩ | exact ⟨cell_set3 p0 hne, cell_set3 p1 hne, cell_set3 p2 hne⟩)
  (first
   | (
    go_at_call_of 46 (Value.string key)
    refine (clone_any key _ (by omega)).mono ?_
    rintro e w3 ⟨rfl, hy⟩
    have q0 : w3.cell? ⟨w.heap.size, 0, none⟩ = some (.int .i64 0) := by first | exact (hy.cell (p := ⟨w.heap.size, 0, none⟩) rl).trans r0 | exact (hy.cell (p := ⟨w.heap.size, 0, none⟩) ql).trans q0
    have q1 : w3.cell? ⟨w.heap.size, 1, none⟩ = some (.string ⟨#[]⟩) := by first | exact (hy.cell (p := ⟨w.heap.size, 1, none⟩) rl).trans r1 | exact (hy.cell (p := ⟨w.heap.size, 1, none⟩) ql).trans q1
    have q2 : w3.cell? ⟨w.heap.size, 2, none⟩ = some (.string ⟨#[]⟩) := by first | exact (hy.cell (p := ⟨w.heap.size, 2, none⟩) rl).trans r2 | exact (hy.cell (p := ⟨w.heap.size, 2, none⟩) ql).trans q2
    have qf : ∀ i, w3.frozen? ⟨w.heap.size, i, none⟩ = false := by first | exact fun i => (hy.frozen (p := ⟨w.heap.size, i, none⟩) rl).trans (rf i) | exact fun i => (hy.frozen (p := ⟨w.heap.size, i, none⟩) ql).trans (qf i)
    have p0 : w3.cell? ⟨w1.heap.size, 0, none⟩ = some (.int .i64 k) := by first | exact (hy.cell (p := ⟨w1.heap.size, 0, none⟩) sl).trans s0 | exact (hy.cell (p := ⟨w1.heap.size, 0, none⟩) pl).trans p0
    have p1 : w3.cell? ⟨w1.heap.size, 1, none⟩ = some (.string key) := by first | exact (hy.cell (p := ⟨w1.heap.size, 1, none⟩) sl).trans s1 | exact (hy.cell (p := ⟨w1.heap.size, 1, none⟩) pl).trans p1
    have p2 : w3.cell? ⟨w1.heap.size, 2, none⟩ = some (.string v) := by first | exact (hy.cell (p := ⟨w1.heap.size, 2, none⟩) sl).trans s2 | exact (hy.cell (p := ⟨w1.heap.size, 2, none⟩) pl).trans p2
    have pb : Below w.heap.size w w3 := by first | exact b2.trans ⟨hy.os, hy.tape, hy.output, hy.size, fun i hi => hy.block i (by first | exact Nat.lt_trans hi rl | exact Nat.lt_of_lt_of_le hi b2.size)⟩ | exact pb.trans (hy.mono pb.size)
    have ql : w.heap.size < w3.heap.size := by first | exact Nat.lt_of_lt_of_le rl hy.size | exact Nat.lt_of_lt_of_le ql hy.size
    have pl : w1.heap.size < w3.heap.size := by first | exact Nat.lt_of_lt_of_le sl hy.size | exact Nat.lt_of_lt_of_le pl hy.size)
   | (
    go_at_call_of 46 (Value.string v)
    refine (clone_any v _ (by omega)).mono ?_
    rintro e w3 ⟨rfl, hy⟩
    have q0 : w3.cell? ⟨w.heap.size, 0, none⟩ = some (.int .i64 0) := by first | exact (hy.cell (p := ⟨w.heap.size, 0, none⟩) rl).trans r0 | exact (hy.cell (p := ⟨w.heap.size, 0, none⟩) ql).trans q0
    have q1 : w3.cell? ⟨w.heap.size, 1, none⟩ = some (.string ⟨#[]⟩) := by first | exact (hy.cell (p := ⟨w.heap.size, 1, none⟩) rl).trans r1 | exact (hy.cell (p := ⟨w.heap.size, 1, none⟩) ql).trans q1
    have q2 : w3.cell? ⟨w.heap.size, 2, none⟩ = some (.string ⟨#[]⟩) := by first | exact (hy.cell (p := ⟨w.heap.size, 2, none⟩) rl).trans r2 | exact (hy.cell (p := ⟨w.heap.size, 2, none⟩) ql).trans q2
    have qf : ∀ i, w3.frozen? ⟨w.heap.size, i, none⟩ = false := by first | exact fun i => (hy.frozen (p := ⟨w.heap.size, i, none⟩) rl).trans (rf i) | exact fun i => (hy.frozen (p := ⟨w.heap.size, i, none⟩) ql).trans (qf i)
    have p0 : w3.cell? ⟨w1.heap.size, 0, none⟩ = some (.int .i64 k) := by first | exact (hy.cell (p := ⟨w1.heap.size, 0, none⟩) sl).trans s0 | exact (hy.cell (p := ⟨w1.heap.size, 0, none⟩) pl).trans p0
    have p1 : w3.cell? ⟨w1.heap.size, 1, none⟩ = some (.string key) := by first | exact (hy.cell (p := ⟨w1.heap.size, 1, none⟩) sl).trans s1 | exact (hy.cell (p := ⟨w1.heap.size, 1, none⟩) pl).trans p1
    have p2 : w3.cell? ⟨w1.heap.size, 2, none⟩ = some (.string v) := by first | exact (hy.cell (p := ⟨w1.heap.size, 2, none⟩) sl).trans s2 | exact (hy.cell (p := ⟨w1.heap.size, 2, none⟩) pl).trans p2
    have pb : Below w.heap.size w w3 := by first | exact b2.trans ⟨hy.os, hy.tape, hy.output, hy.size, fun i hi => hy.block i (by first | exact Nat.lt_trans hi rl | exact Nat.lt_of_lt_of_le hi b2.size)⟩ | exact pb.trans (hy.mono pb.size)
    have ql : w.heap.size < w3.heap.size := by first | exact Nat.lt_of_lt_of_le rl hy.size | exact Nat.lt_of_lt_of_le ql hy.size
    have pl : w1.heap.size < w3.heap.size := by first | exact Nat.lt_of_lt_of_le sl hy.size | exact Nat.lt_of_lt_of_le pl hy.size))
 all_goals go_wp2
 all_goals refine bodyPost_ret (v := .tuple #[.agg #[.int .i64 k, .string key, .string v], .int .i64 0]) (by simp [results, Tryz.results96, go_sem, q0, q1, q2]) rfl ⟨rfl, ?_⟩
 all_goals repeat' (first | exact Below.refl _ _ | assumption | with_reducible refine below_drewN ?_ _ | with_reducible refine Below.drew ?_ | with_reducible refine Below.setCell ?_ ?_ _ | with_reducible refine Below.alloc ?_ ?_ _ | (simp; done) | (simp; omega))
theorem read_long (t : ByteArray) (w : World) (h : 60 < t.size) :
  Calls Tryz.prog 96 #[.string t] w fun e w' => e = .returned (.tuple #[.agg #[.int .i64 0, .string ⟨#[]⟩, .string ⟨#[]⟩], .int .i64 1]) ∧ Below w.heap.size w w' := by
 have hd : decide (60 < (t.size : Int)) = true := decide_eq_true (by omega)
 go_enter Tryz.func96, Tryz.ntmps96
 go_wp2
 refine bodyPost_ret (v := .tuple #[.agg #[.int .i64 0, .string ⟨#[]⟩, .string ⟨#[]⟩], .int .i64 1]) (by simp [results, Tryz.results96, go_sem]) rfl ⟨rfl, ?_⟩
 repeat' (first | exact Below.refl _ _ | assumption | with_reducible refine below_drewN ?_ _ | with_reducible refine Below.drew ?_ | with_reducible refine Below.setCell ?_ ?_ _ | with_reducible refine Below.alloc ?_ ?_ _ | (simp; done) | (simp; omega))
set_option maxHeartbeats 400000 in
theorem read_split (t : ByteArray) (w : World) (hW : Words w) (hl : ¬ 60 < t.size) (h : splitE t ≠ 0) :
  Calls Tryz.prog 96 #[.string t] w fun e w' => e = .returned (.tuple #[.agg #[.int .i64 0, .string ⟨#[]⟩, .string ⟨#[]⟩], .int .i64 (splitE t)]) ∧ Below w.heap.size w w' := by
 have hd : decide (60 < (t.size : Int)) = false := decide_eq_false (by omega)
 have HSP := jD (split_no t (w.alloc (.cells #[.int .i64 0, .string ⟨#[]⟩, .string ⟨#[]⟩] 41)) (by unfold maxLen; omega) (hW.alloc _) h)
 have h1 : (splitE t == 0) = false := beq_eq_false_iff_ne.2 h
 have h2 : (splitE t != 0) = true := bne_iff_ne.2 h
 generalize splitE t = c at *
 clear hW h
 go_enter Tryz.func96, Tryz.ntmps96
 go_wp2_with fail
 refine HSP.out.mono ?_
 rintro e w1 ⟨rfl, hb⟩
 obtain ⟨rl, r0, r1, r2, rf⟩ := (Stm.new w 0 ⟨#[]⟩ ⟨#[]⟩ 41).below hb
 have bel := bel_trans ((Below.refl _ _).alloc (nL _) _) hb
 go_wp2
 refine bodyPost_ret (v := .tuple #[.agg #[.int .i64 0, .string ⟨#[]⟩, .string ⟨#[]⟩], .int .i64 c]) (by simp [results, Tryz.results96, go_sem, r0, r1, r2, rl]) rfl ⟨rfl, ?_⟩
 repeat' (first | exact Below.refl _ _ | assumption | with_reducible refine below_drewN ?_ _ | with_reducible refine Below.drew ?_ | with_reducible refine Below.setCell ?_ ?_ _ | with_reducible refine Below.alloc ?_ ?_ _ | (simp; done) | (simp; omega))
set_option maxHeartbeats 400000 in
theorem read_check (t : ByteArray) (w : World) (hW : Words w) (hl : ¬ 60 < t.size) (h : splitE t = 0) (hc : checkE (kindN (cutA t)) (cutA (cutB t)) (cutB (cutB t)) ≠ 0) :
  Calls Tryz.prog 96 #[.string t] w fun e w' => e = .returned (.tuple #[.agg #[.int .i64 0, .string ⟨#[]⟩, .string ⟨#[]⟩], .int .i64 (checkE (kindN (cutA t)) (cutA (cutB t)) (cutB (cutB t)))]) ∧ Below w.heap.size w w' := by
 have hd : decide (60 < (t.size : Int)) = false := decide_eq_false (by omega)
 have HW := jD hW
 have HSP := jD (split_ok t (w.alloc (.cells #[.int .i64 0, .string ⟨#[]⟩, .string ⟨#[]⟩] 41)) (by unfold maxLen; omega) (hW.alloc _) h)
 have hk8 : (cutA (cutB t)).size ≤ maxLen := by rw [cutA_size]; have := cutI_le (cutB t); have := cutB_size t; unfold maxLen; omega
 have hv8 : (cutB (cutB t)).size ≤ maxLen := by rw [cutB_size]; have := cutB_size t; unfold maxLen; omega
 generalize kindN (cutA t) = k at *
 generalize cutA (cutB t) = key at *
 generalize cutB (cutB t) = v at *
 have h2 : (checkE k key v != 0) = true := bne_iff_ne.2 hc
 clear hW h hc
 go_enter Tryz.func96, Tryz.ntmps96
 go_wp2_with fail
 refine HSP.out.mono ?_
 rintro e w1 ⟨rfl, hb⟩
 have HR := jD ((Stm.new w 0 ⟨#[]⟩ ⟨#[]⟩ 41).below hb)
 go_wp2_with fail
 refine (check_any k key v (w1.alloc (.cells #[.int .i64 k, .string key, .string v] 41)) hk8 hv8 (((HW.out.alloc _).below hb).alloc _)).mono ?_
 rintro e w2 ⟨rfl, hb2⟩
 obtain ⟨rl, r0, r1, r2, rf⟩ := (HR.out.below ((Below.refl _ _).alloc (nL _) (.cells #[.int .i64 k, .string key, .string v] 41))).below hb2
 have bel : Below w.heap.size w w2 := bel_trans ((bel_trans ((Below.refl _ _).alloc (nL _) _) hb).alloc (bel_trans ((Below.refl _ _).alloc (nL _) _) hb).size _) hb2
 go_wp2
 refine bodyPost_ret (v := .tuple #[.agg #[.int .i64 0, .string ⟨#[]⟩, .string ⟨#[]⟩], .int .i64 (checkE k key v)]) (by simp [results, Tryz.results96, go_sem, r0, r1, r2]) rfl ⟨rfl, ?_⟩
 repeat' (first | exact Below.refl _ _ | assumption | with_reducible refine below_drewN ?_ _ | with_reducible refine Below.drew ?_ | with_reducible refine Below.setCell ?_ ?_ _ | with_reducible refine Below.alloc ?_ ?_ _ | (simp; done) | (simp; omega))
theorem read_no (t : ByteArray) (w : World) (hW : Words w) (h : readE t ≠ 0) :
  Calls Tryz.prog 96 #[.string t] w fun e w' => e = .returned (.tuple #[.agg #[.int .i64 0, .string ⟨#[]⟩, .string ⟨#[]⟩], .int .i64 (readE t)]) ∧ Below w.heap.size w w' := by
 by_cases hl : 60 < t.size
 ·rw [readE_long hl]; exact read_long t w hl
 ·by_cases hs : splitE t = 0
  ·rw [readE_check hl hs] at h ⊢; exact read_check t w hW hl hs h
  ·rw [readE_split hl hs]; exact read_split t w hW hl hs
end Go.Proofs.YtpbaobmegomfpabGreatDoor
