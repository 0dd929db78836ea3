/-
  Walks of statements: say.kindOf, say.split, say.Check and what they call.
-/
import Derived.Test.YtpbaobmegomfpaaDoorRows
import Derived.Test.YtpbaobmegomfpaaDoorSay1v
import Derived.Test.YtpbaobmegomfpaaDoorSay4
namespace Go.Proofs.YtpbaobmegomfpaaDoor
open Go.RowKit
set_option linter.unusedVariables false
set_option maxRecDepth 100000

set_option maxHeartbeats 400000 in
theorem kindOf_any (s : ByteArray) (w : World) (hW : Words w) :
    Calls Tryd.prog 50 #[.string s] w fun e w' => e = .returned (.int .i64 (kindN s)) ∧ w = w' := by
  have HW := Lib.hid hW
  clear hW
  go_enter Tryd.func50, Tryd.ntmps50
  go_wp2
  go_loop [3] (fun c => ∃ k : Nat, 1 ≤ k ∧ k ≤ 12 ∧ c = .int .i64 k ∧ Hid (∀ j, 1 ≤ j → j < k → wordL j ≠ s.data.toList)) (fun c => 12 - (intOf c).toNat)
  case atStart => exact ⟨1, by omega, by omega, rfl, fun j h1 h => by omega⟩
  case round =>
    obtain ⟨k, hk1, hk, rfl, hall⟩ := hrel
    by_cases hlt : k ≤ 11
    · have hc := HW.out.cell k hlt
      have hwl := Lib.hid (wordAt_toList k)
      go_wp2
      · have h : ((wordAt k).toList == s.toList) = true := by assumption
        rw [Lib.toList_data, Lib.toList_data, hwl.out, beq_iff_eq] at h
        have hk := kindN_hit hk1 hlt h
        go_ret
        exact ⟨ret_int (by rw [hk]), rfl⟩
      · have h : ((wordAt k).toList == s.toList) = false := by assumption
        rw [Lib.toList_data, Lib.toList_data, hwl.out, beq_eq_false_iff_ne] at h
        go_round
        case rel =>
          refine ⟨k + 1, by omega, by omega, by go_num, fun j h1 hjk => ?_⟩
          by_cases e : j = k
          · subst e; exact h
          · exact hall.out j h1 (by omega)
        case measure => simp [intOf]; omega
    · have hk := Lib.hid (kindN_none (fun j h1 h2 => hall.out j h1 (by omega)))
      go_wp2
      go_ret
      exact ⟨ret_int (by rw [hk.out]; rfl), rfl⟩

set_option maxHeartbeats 400000 in
theorem split_kind (s : ByteArray) (w : World) (hs : s.size ≤ maxLen) (hW : Words w) (h : kindN (cutA s) = 0) :
    Calls Tryd.prog 30 #[.string s] w fun e w' => e = .returned (.tuple #[.agg #[.int .i64 0, .string ⟨#[]⟩, .string ⟨#[]⟩], .int .i64 3]) ∧ Below w.heap.size w w' := by
  have HW := Lib.hid hW
  have H := Lib.hid h
  clear hW h
  go_enter Tryd.func30, Tryd.ntmps30
  go_wp2_with fail
  refine (cut_any s _ hs).mono ?_
  rintro e w1 ⟨rfl, n, rfl⟩
  go_wp2_with fail
  refine (kindOf_any (cutA s) _ ((HW.out.alloc _).drewN n)).mono ?_
  rw [H.out]
  rintro e w2 ⟨rfl, rfl⟩
  go_wp2
  refine bodyPost_ret (v := .tuple #[.agg #[.int .i64 0, .string ⟨#[]⟩, .string ⟨#[]⟩], .int .i64 3]) (by simp [results, Tryd.results30, go_sem]) rfl ⟨rfl, ?_⟩
  repeat' (first | exact Below.refl _ _ | assumption | with_reducible refine below_drewN ?_ _ | with_reducible refine Below.drew ?_ | with_reducible refine Below.setCell ?_ ?_ _ | with_reducible refine Below.alloc ?_ ?_ _ | (simp; done) | (simp; omega))

set_option maxHeartbeats 400000 in
theorem split_a (s : ByteArray) (w : World) (hs : s.size ≤ maxLen) (hW : Words w) (h : kindN (cutA s) ≠ 0) (h1 : cutF s = true) (h2 : (cutA (cutB s)).toList.isEmpty = true) :
    Calls Tryd.prog 30 #[.string s] w fun e w' => e = .returned (.tuple #[.agg #[.int .i64 0, .string ⟨#[]⟩, .string ⟨#[]⟩], .int .i64 4]) ∧ Below w.heap.size w w' := by
  have HW := Lib.hid hW
  have hk0 : ((kindN (cutA s) : Int) == 0) = false := beq_eq_false_iff_ne.2 (by omega)
  have hs2 : (cutB s).size ≤ maxLen := by rw [cutB_size]; omega
  clear hW h
  go_enter Tryd.func30, Tryd.ntmps30
  go_wp2_with fail
  refine (cut_any s _ hs).mono ?_
  rintro e w1 ⟨rfl, n, rfl⟩
  go_wp2_with fail
  refine (kindOf_any (cutA s) _ ((HW.out.alloc _).drewN n)).mono ?_
  rintro e w2 ⟨rfl, rfl⟩
  go_wp2_with fail
  refine (cut_any (cutB s) _ hs2).mono ?_
  rintro e w3 ⟨rfl, m, rfl⟩
  go_wp2
  refine bodyPost_ret (v := .tuple #[.agg #[.int .i64 0, .string ⟨#[]⟩, .string ⟨#[]⟩], .int .i64 4]) (by simp [results, Tryd.results30, go_sem]) rfl ⟨rfl, ?_⟩
  repeat' (first | exact Below.refl _ _ | assumption | with_reducible refine below_drewN ?_ _ | with_reducible refine Below.drew ?_ | with_reducible refine Below.setCell ?_ ?_ _ | with_reducible refine Below.alloc ?_ ?_ _ | (simp; done) | (simp; omega))


set_option maxHeartbeats 400000 in
theorem split_b (s : ByteArray) (w : World) (hs : s.size ≤ maxLen) (hW : Words w) (h : kindN (cutA s) ≠ 0) (h1 : cutF s = false) (h3 : cutF (cutB s) = false) :
    Calls Tryd.prog 30 #[.string s] w fun e w' => e = .returned (.tuple #[.agg #[.int .i64 (kindN (cutA s)), .string (cutA (cutB s)), .string (cutB (cutB s))], .int .i64 0]) ∧ Below w.heap.size w w' := by
  have HW := Lib.hid hW
  have hk0 : ((kindN (cutA s) : Int) == 0) = false := beq_eq_false_iff_ne.2 (by omega)
  have hs2 : (cutB s).size ≤ maxLen := by rw [cutB_size]; omega
  clear hW h
  go_enter Tryd.func30, Tryd.ntmps30
  go_wp2_with fail
  refine (cut_any s _ hs).mono ?_
  rintro e w1 ⟨rfl, n, rfl⟩
  go_wp2_with fail
  refine (kindOf_any (cutA s) _ ((HW.out.alloc _).drewN n)).mono ?_
  rintro e w2 ⟨rfl, rfl⟩
  go_wp2_with fail
  refine (cut_any (cutB s) _ hs2).mono ?_
  rintro e w3 ⟨rfl, m, rfl⟩
  go_wp2
  refine bodyPost_ret (v := .tuple #[.agg #[.int .i64 (kindN (cutA s)), .string (cutA (cutB s)), .string (cutB (cutB s))], .int .i64 0]) (by simp [results, Tryd.results30, go_sem]) rfl ⟨rfl, ?_⟩
  repeat' (first | exact Below.refl _ _ | assumption | with_reducible refine below_drewN ?_ _ | with_reducible refine Below.drew ?_ | with_reducible refine Below.setCell ?_ ?_ _ | with_reducible refine Below.alloc ?_ ?_ _ | (simp; done) | (simp; omega))


set_option maxHeartbeats 400000 in
theorem split_c (s : ByteArray) (w : World) (hs : s.size ≤ maxLen) (hW : Words w) (h : kindN (cutA s) ≠ 0) (h1 : cutF s = true) (h2 : (cutA (cutB s)).toList.isEmpty = false) (h3 : cutF (cutB s) = false) :
    Calls Tryd.prog 30 #[.string s] w fun e w' => e = .returned (.tuple #[.agg #[.int .i64 (kindN (cutA s)), .string (cutA (cutB s)), .string (cutB (cutB s))], .int .i64 0]) ∧ Below w.heap.size w w' := by
  have HW := Lib.hid hW
  have hk0 : ((kindN (cutA s) : Int) == 0) = false := beq_eq_false_iff_ne.2 (by omega)
  have hs2 : (cutB s).size ≤ maxLen := by rw [cutB_size]; omega
  clear hW h
  go_enter Tryd.func30, Tryd.ntmps30
  go_wp2_with fail
  refine (cut_any s _ hs).mono ?_
  rintro e w1 ⟨rfl, n, rfl⟩
  go_wp2_with fail
  refine (kindOf_any (cutA s) _ ((HW.out.alloc _).drewN n)).mono ?_
  rintro e w2 ⟨rfl, rfl⟩
  go_wp2_with fail
  refine (cut_any (cutB s) _ hs2).mono ?_
  rintro e w3 ⟨rfl, m, rfl⟩
  go_wp2
  refine bodyPost_ret (v := .tuple #[.agg #[.int .i64 (kindN (cutA s)), .string (cutA (cutB s)), .string (cutB (cutB s))], .int .i64 0]) (by simp [results, Tryd.results30, go_sem]) rfl ⟨rfl, ?_⟩
  repeat' (first | exact Below.refl _ _ | assumption | with_reducible refine below_drewN ?_ _ | with_reducible refine Below.drew ?_ | with_reducible refine Below.setCell ?_ ?_ _ | with_reducible refine Below.alloc ?_ ?_ _ | (simp; done) | (simp; omega))


set_option maxHeartbeats 400000 in
theorem split_d (s : ByteArray) (w : World) (hs : s.size ≤ maxLen) (hW : Words w) (h : kindN (cutA s) ≠ 0) (h1 : cutF s = true) (h2 : (cutA (cutB s)).toList.isEmpty = false) (h3 : cutF (cutB s) = true) (h4 : (cutB (cutB s)).toList.isEmpty = true) :
    Calls Tryd.prog 30 #[.string s] w fun e w' => e = .returned (.tuple #[.agg #[.int .i64 0, .string ⟨#[]⟩, .string ⟨#[]⟩], .int .i64 4]) ∧ Below w.heap.size w w' := by
  have HW := Lib.hid hW
  have hk0 : ((kindN (cutA s) : Int) == 0) = false := beq_eq_false_iff_ne.2 (by omega)
  have hs2 : (cutB s).size ≤ maxLen := by rw [cutB_size]; omega
  clear hW h
  go_enter Tryd.func30, Tryd.ntmps30
  go_wp2_with fail
  refine (cut_any s _ hs).mono ?_
  rintro e w1 ⟨rfl, n, rfl⟩
  go_wp2_with fail
  refine (kindOf_any (cutA s) _ ((HW.out.alloc _).drewN n)).mono ?_
  rintro e w2 ⟨rfl, rfl⟩
  go_wp2_with fail
  refine (cut_any (cutB s) _ hs2).mono ?_
  rintro e w3 ⟨rfl, m, rfl⟩
  go_wp2
  refine bodyPost_ret (v := .tuple #[.agg #[.int .i64 0, .string ⟨#[]⟩, .string ⟨#[]⟩], .int .i64 4]) (by simp [results, Tryd.results30, go_sem]) rfl ⟨rfl, ?_⟩
  repeat' (first | exact Below.refl _ _ | assumption | with_reducible refine below_drewN ?_ _ | with_reducible refine Below.drew ?_ | with_reducible refine Below.setCell ?_ ?_ _ | with_reducible refine Below.alloc ?_ ?_ _ | (simp; done) | (simp; omega))


set_option maxHeartbeats 400000 in
theorem split_e (s : ByteArray) (w : World) (hs : s.size ≤ maxLen) (hW : Words w) (h : kindN (cutA s) ≠ 0) (h1 : cutF s = true) (h2 : (cutA (cutB s)).toList.isEmpty = false) (h3 : cutF (cutB s) = true) (h4 : (cutB (cutB s)).toList.isEmpty = false) :
    Calls Tryd.prog 30 #[.string s] w fun e w' => e = .returned (.tuple #[.agg #[.int .i64 (kindN (cutA s)), .string (cutA (cutB s)), .string (cutB (cutB s))], .int .i64 0]) ∧ Below w.heap.size w w' := by
  have HW := Lib.hid hW
  have hk0 : ((kindN (cutA s) : Int) == 0) = false := beq_eq_false_iff_ne.2 (by omega)
  have hs2 : (cutB s).size ≤ maxLen := by rw [cutB_size]; omega
  clear hW h
  go_enter Tryd.func30, Tryd.ntmps30
  go_wp2_with fail
  refine (cut_any s _ hs).mono ?_
  rintro e w1 ⟨rfl, n, rfl⟩
  go_wp2_with fail
  refine (kindOf_any (cutA s) _ ((HW.out.alloc _).drewN n)).mono ?_
  rintro e w2 ⟨rfl, rfl⟩
  go_wp2_with fail
  refine (cut_any (cutB s) _ hs2).mono ?_
  rintro e w3 ⟨rfl, m, rfl⟩
  go_wp2
  refine bodyPost_ret (v := .tuple #[.agg #[.int .i64 (kindN (cutA s)), .string (cutA (cutB s)), .string (cutB (cutB s))], .int .i64 0]) (by simp [results, Tryd.results30, go_sem]) rfl ⟨rfl, ?_⟩
  repeat' (first | exact Below.refl _ _ | assumption | with_reducible refine below_drewN ?_ _ | with_reducible refine Below.drew ?_ | with_reducible refine Below.setCell ?_ ?_ _ | with_reducible refine Below.alloc ?_ ?_ _ | (simp; done) | (simp; omega))


/-- a text that is a statement's, but for what Check asks -/
theorem split_ok (s : ByteArray) (w : World) (hs : s.size ≤ maxLen) (hW : Words w) (h : splitE s = 0) :
    Calls Tryd.prog 30 #[.string s] w fun e w' => e = .returned (.tuple #[.agg #[.int .i64 (kindN (cutA s)), .string (cutA (cutB s)), .string (cutB (cutB s))], .int .i64 0]) ∧ Below w.heap.size w w' := by
  obtain ⟨h0, hb⟩ := splitE_ok h
  unfold splitBad at hb
  cases h1 : cutF s
  · exact split_b s w hs hW h0 h1 (cutF_none h1)
  · rw [h1] at hb
    cases h2 : (cutA (cutB s)).toList.isEmpty
    · rw [h2] at hb
      cases h3 : cutF (cutB s)
      · exact split_c s w hs hW h0 h1 h2 h3
      · rw [h3] at hb
        cases h4 : (cutB (cutB s)).toList.isEmpty
        · exact split_e s w hs hW h0 h1 h2 h3 h4
        · rw [h4] at hb; simp at hb
    · rw [h2] at hb; simp at hb
/-- and one that is not -/
theorem split_no (s : ByteArray) (w : World) (hs : s.size ≤ maxLen) (hW : Words w) (h : splitE s ≠ 0) :
    Calls Tryd.prog 30 #[.string s] w fun e w' => e = .returned (.tuple #[.agg #[.int .i64 0, .string ⟨#[]⟩, .string ⟨#[]⟩], .int .i64 (splitE s)]) ∧ Below w.heap.size w w' := by
  by_cases h0 : kindN (cutA s) = 0
  · rw [splitE_kind h0]; exact split_kind s w hs hW h0
  · have hb := splitE_bad h0 h
    rw [splitE_form h0 hb]
    unfold splitBad at hb
    cases h1 : cutF s
    · rw [h1, cutF_none h1] at hb; simp at hb
    · rw [h1] at hb
      cases h2 : (cutA (cutB s)).toList.isEmpty
      · rw [h2] at hb
        cases h3 : cutF (cutB s)
        · rw [h3] at hb; simp at hb
        · rw [h3] at hb
          cases h4 : (cutB (cutB s)).toList.isEmpty
          · rw [h4] at hb; simp at hb
          · exact split_d s w hs hW h0 h1 h2 h3 h4
      · exact split_a s w hs hW h0 h1 h2

end Go.Proofs.YtpbaobmegomfpaaDoor
