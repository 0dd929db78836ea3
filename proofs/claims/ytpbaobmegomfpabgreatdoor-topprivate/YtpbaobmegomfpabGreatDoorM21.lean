/-
  Texts of the proof, one behind the other: Picked, RawS, OrdersZ.
-/
import Derived.Test.YtpbaobmegomfpabGreatDoorRows
import Derived.Test.YtpbaobmegomfpabGreatDoorM1
import Derived.WalkKit
import Derived.WalkSpells
import Derived.WalkLawsBesides
import Derived.Lib.Hide
import Derived.Test.YtpbaobmegomfpabGreatDoorM20
import Derived.OrdersHeld
import Derived.Deep.RegionHeld
set_option linter.unusedVariables false
set_option linter.unusedSimpArgs false
set_option maxRecDepth 100000
open List renaming getElem_toArray → gTA, getElem_cons_zero → gCZ, getElem_cons_succ → gCS, setIfInBounds_toArray → sTA, set_cons_zero → sCZ, set_cons_succ → sCS
open Go.Lib renaming hid → jD
namespace Go.Proofs.YtpbaobmegomfpabGreatDoor
open Go.RowKit
theorem i64_bd {a : Int} (h : (Lit.int .i64 a).wf = true) : -9223372036854775808 ≤ a ∧ a ≤ 9223372036854775807 := by
 simpa [Lit.wf, IntKind.min, IntKind.max, IntKind.signed, IntKind.bits] using h
set_option maxHeartbeats 400000 in
theorem picked_any (n m : Int) (w : World) (hn : -9223372036854775808 ≤ n) (hn2 : n ≤ 9223372036854775807) (hm : 0 < m) (hm2 : m ≤ 9223372036854775807) :
  Calls Tryz.prog 14 #[.int .i64 n, .int .i64 m] w fun e w' => e = .returned (.int .i64 (pickI n m)) ∧ w = w' := by
 have hm0 : (m == 0) = false := beq_eq_false_iff_ne.2 (by omega)
 by_cases h : n < 0
 ·have hp := jD (pickI_neg (m := m) h)
  have h1 : 0 ≤ -(n + 1) := by omega
  go_enter Tryz.func14, Tryz.ntmps14
  go_wp2
  go_ret
  exact ⟨ret_int (by rw [hp.out, ← Int.neg_tmod, Int.tmod_eq_emod_of_nonneg h1]), rfl⟩
 ·have hp := jD (pickI_pos (m := m) h)
  go_enter Tryz.func14, Tryz.ntmps14
  go_wp2
  go_ret
  exact ⟨by rw [hp.out]; rfl, rfl⟩
end Go.Proofs.YtpbaobmegomfpabGreatDoor
namespace Go.Proofs.YtpbaobmegomfpabGreatDoor
open Go.RowKit
theorem pick_some (n : Int) (m : Nat) (hm : 0 < m) : ∃ p : Nat, pickI n m = (p : Int) ∧ p < m := by
 have := pickI_bd n (m := (m : Int)) (by omega)
 exact ⟨(pickI n m).toNat, by omega, by omega⟩
theorem key_get : ∀ (x : Nat) (h : x < [Value.string ⟨#[97]⟩, .string ⟨#[98]⟩, .string ⟨#[114, 111, 119]⟩, .string ⟨#[110, 97, 109, 101]⟩].length), [Value.string ⟨#[97]⟩, .string ⟨#[98]⟩, .string ⟨#[114, 111, 119]⟩, .string ⟨#[110, 97, 109, 101]⟩][x] = .string (keyAt x)
 | 0, _ => rfl
 | 1, _ => rfl
 | 2, _ => rfl
 | 3, _ => rfl
theorem kind_get : ∀ (x : Nat) (h : x < [Value.int .i64 4, .int .i64 5, .int .i64 5].length), [Value.int .i64 4, .int .i64 5, .int .i64 5][x] = .int .i64 (rawK 6 x)
 | 0, _ => rfl
 | 1, _ => rfl
 | 2, _ => rfl
theorem prep_get (b : Nat) : ∀ (x : Nat) (h : x < [Value.string ⟨#[103, 101, 116, 32, 97]⟩, .string ⟨#[114, 101, 97, 100, 32, 114, 111, 119]⟩, .string (⟨#[112, 117, 116, 32, 114, 111, 119, 32]⟩ ++ valAt b), .string ⟨#[112, 117, 116, 32, 98, 32, 120]⟩].length),
  [Value.string ⟨#[103, 101, 116, 32, 97]⟩, .string ⟨#[114, 101, 97, 100, 32, 114, 111, 119]⟩, .string (⟨#[112, 117, 116, 32, 114, 111, 119, 32]⟩ ++ valAt b), .string ⟨#[112, 117, 116, 32, 98, 32, 120]⟩][x] = .string (prepAt x b)
 | 0, _ => rfl
 | 1, _ => rfl
 | 2, _ => rfl
 | 3, _ => rfl
theorem numAt_size (n : Nat) : (numAt n).size ≤ 2 := by
 unfold numAt numL
 split
 ·show ([UInt8.ofNat (48 + n)] : List UInt8).toArray.size ≤ 2; simp
 ·show ([UInt8.ofNat (48 + n / 10), UInt8.ofNat (48 + n % 10)] : List UInt8).toArray.size ≤ 2; simp
theorem valAt_size (n : Nat) : (valAt n).size ≤ 3 := by
 have := numAt_size n
 unfold valAt; rw [ByteArray.size_append]; show 1 + _ ≤ 3; omega
set_option maxHeartbeats 1000000 in
theorem stmt_1 (kd a b c : Int) (k x y z3 z4 : Nat) (w : World) (hk1 : -9223372036854775808 ≤ kd) (hk2 : kd ≤ 9223372036854775807) (ha1 : -9223372036854775808 ≤ a) (ha2 : a ≤ 9223372036854775807) (hb1 : -9223372036854775808 ≤ b) (hb2 : b ≤ 9223372036854775807) (hc1 : -9223372036854775808 ≤ c) (hc2 : c ≤ 9223372036854775807)
  (Hk : Hid (pickI kd 24 = (k : Int))) (Hx : Hid (pickI a 4 = (x : Int))) (Hy : Hid (pickI b 12 = (y : Int))) (H3 : Hid (pickI c 3 = (z3 : Int))) (H4 : Hid (pickI c 4 = (z4 : Int))) (hk24 : k < 24) (hx4 : x < 4) (hy12 : y < 12) (hz3 : z3 < 3) (hz4 : z4 < 4) (h : k < 3) :
  Calls Tryz.prog 11 #[.agg #[.int .i64 kd, .int .i64 a, .int .i64 b, .int .i64 c]] w fun e w' => e = .returned (.agg #[.int .i64 1, .string ⟨#[]⟩, .string ⟨#[]⟩]) ∧ Below w.heap.size w w' := by
 have hns := numAt_size y
 go_enter Tryz.func11, Tryz.ntmps11
 go_wp2_with fail
 refine (picked_any a 4 _ ha1 ha2 (by omega) (by omega)).mono ?_
 rw [Hx.out]
 rintro e w1 ⟨rfl, rfl⟩
 go_wp2_with fail
 rw [key_get]
 refine (picked_any b 12 _ hb1 hb2 (by omega) (by omega)).mono ?_
 rw [Hy.out]
 rintro e w2 ⟨rfl, rfl⟩
 go_wp2_with fail
 refine (itoa_any y _ hy12).mono ?_
 rintro e w3 ⟨rfl, rfl⟩
 go_wp2_with fail
 rw [show (⟨#[118]⟩ : ByteArray) ++ numAt y = valAt y from rfl]
 have hvs := valAt_size y
 clear hns
 refine (picked_any kd 24 _ hk1 hk2 (by omega) (by omega)).mono ?_
 rw [Hk.out]
 rintro e w4 ⟨rfl, rfl⟩
 go_wp2
 refine bodyPost_ret (v := .agg #[.int .i64 1, .string ⟨#[]⟩, .string ⟨#[]⟩]) (by simp [results, Tryz.results11, go_sem]) rfl ⟨rfl, ?_⟩
 repeat' (first | exact Below.refl _ _ | assumption | with_reducible refine below_drewN ?_ _ | with_reducible refine Below.drew ?_ | with_reducible refine Below.setCell ?_ ?_ _ | with_reducible refine Below.alloc ?_ ?_ _ | (simp; done) | (simp; omega))
set_option maxHeartbeats 1000000 in
theorem stmt_2 (kd a b c : Int) (k x y z3 z4 : Nat) (w : World) (hk1 : -9223372036854775808 ≤ kd) (hk2 : kd ≤ 9223372036854775807) (ha1 : -9223372036854775808 ≤ a) (ha2 : a ≤ 9223372036854775807) (hb1 : -9223372036854775808 ≤ b) (hb2 : b ≤ 9223372036854775807) (hc1 : -9223372036854775808 ≤ c) (hc2 : c ≤ 9223372036854775807)
  (Hk : Hid (pickI kd 24 = (k : Int))) (Hx : Hid (pickI a 4 = (x : Int))) (Hy : Hid (pickI b 12 = (y : Int))) (H3 : Hid (pickI c 3 = (z3 : Int))) (H4 : Hid (pickI c 4 = (z4 : Int))) (hk24 : k < 24) (hx4 : x < 4) (hy12 : y < 12) (hz3 : z3 < 3) (hz4 : z4 < 4) (h : ¬ k < 3 ∧ k < 5) :
  Calls Tryz.prog 11 #[.agg #[.int .i64 kd, .int .i64 a, .int .i64 b, .int .i64 c]] w fun e w' => e = .returned (.agg #[.int .i64 2, .string ⟨#[]⟩, .string ⟨#[]⟩]) ∧ Below w.heap.size w w' := by
 obtain ⟨h, h'⟩ := h
 have hns := numAt_size y
 go_enter Tryz.func11, Tryz.ntmps11
 go_wp2_with fail
 refine (picked_any a 4 _ ha1 ha2 (by omega) (by omega)).mono ?_
 rw [Hx.out]
 rintro e w1 ⟨rfl, rfl⟩
 go_wp2_with fail
 rw [key_get]
 refine (picked_any b 12 _ hb1 hb2 (by omega) (by omega)).mono ?_
 rw [Hy.out]
 rintro e w2 ⟨rfl, rfl⟩
 go_wp2_with fail
 refine (itoa_any y _ hy12).mono ?_
 rintro e w3 ⟨rfl, rfl⟩
 go_wp2_with fail
 rw [show (⟨#[118]⟩ : ByteArray) ++ numAt y = valAt y from rfl]
 have hvs := valAt_size y
 clear hns
 refine (picked_any kd 24 _ hk1 hk2 (by omega) (by omega)).mono ?_
 rw [Hk.out]
 rintro e w4 ⟨rfl, rfl⟩
 go_wp2
 refine bodyPost_ret (v := .agg #[.int .i64 2, .string ⟨#[]⟩, .string ⟨#[]⟩]) (by simp [results, Tryz.results11, go_sem]) rfl ⟨rfl, ?_⟩
 repeat' (first | exact Below.refl _ _ | assumption | with_reducible refine below_drewN ?_ _ | with_reducible refine Below.drew ?_ | with_reducible refine Below.setCell ?_ ?_ _ | with_reducible refine Below.alloc ?_ ?_ _ | (simp; done) | (simp; omega))
set_option maxHeartbeats 1000000 in
theorem stmt_3 (kd a b c : Int) (k x y z3 z4 : Nat) (w : World) (hk1 : -9223372036854775808 ≤ kd) (hk2 : kd ≤ 9223372036854775807) (ha1 : -9223372036854775808 ≤ a) (ha2 : a ≤ 9223372036854775807) (hb1 : -9223372036854775808 ≤ b) (hb2 : b ≤ 9223372036854775807) (hc1 : -9223372036854775808 ≤ c) (hc2 : c ≤ 9223372036854775807)
  (Hk : Hid (pickI kd 24 = (k : Int))) (Hx : Hid (pickI a 4 = (x : Int))) (Hy : Hid (pickI b 12 = (y : Int))) (H3 : Hid (pickI c 3 = (z3 : Int))) (H4 : Hid (pickI c 4 = (z4 : Int))) (hk24 : k < 24) (hx4 : x < 4) (hy12 : y < 12) (hz3 : z3 < 3) (hz4 : z4 < 4) (h : k = 5) :
  Calls Tryz.prog 11 #[.agg #[.int .i64 kd, .int .i64 a, .int .i64 b, .int .i64 c]] w fun e w' => e = .returned (.agg #[.int .i64 3, .string ⟨#[]⟩, .string ⟨#[]⟩]) ∧ Below w.heap.size w w' := by
 subst h
 have hns := numAt_size y
 go_enter Tryz.func11, Tryz.ntmps11
 go_wp2_with fail
 refine (picked_any a 4 _ ha1 ha2 (by omega) (by omega)).mono ?_
 rw [Hx.out]
 rintro e w1 ⟨rfl, rfl⟩
 go_wp2_with fail
 rw [key_get]
 refine (picked_any b 12 _ hb1 hb2 (by omega) (by omega)).mono ?_
 rw [Hy.out]
 rintro e w2 ⟨rfl, rfl⟩
 go_wp2_with fail
 refine (itoa_any y _ hy12).mono ?_
 rintro e w3 ⟨rfl, rfl⟩
 go_wp2_with fail
 rw [show (⟨#[118]⟩ : ByteArray) ++ numAt y = valAt y from rfl]
 have hvs := valAt_size y
 clear hns
 refine (picked_any kd 24 _ hk1 hk2 (by omega) (by omega)).mono ?_
 rw [Hk.out]
 rintro e w4 ⟨rfl, rfl⟩
 go_wp2
 refine bodyPost_ret (v := .agg #[.int .i64 3, .string ⟨#[]⟩, .string ⟨#[]⟩]) (by simp [results, Tryz.results11, go_sem]) rfl ⟨rfl, ?_⟩
 repeat' (first | exact Below.refl _ _ | assumption | with_reducible refine below_drewN ?_ _ | with_reducible refine Below.drew ?_ | with_reducible refine Below.setCell ?_ ?_ _ | with_reducible refine Below.alloc ?_ ?_ _ | (simp; done) | (simp; omega))
set_option maxHeartbeats 1000000 in
theorem stmt_4 (kd a b c : Int) (k x y z3 z4 : Nat) (w : World) (hk1 : -9223372036854775808 ≤ kd) (hk2 : kd ≤ 9223372036854775807) (ha1 : -9223372036854775808 ≤ a) (ha2 : a ≤ 9223372036854775807) (hb1 : -9223372036854775808 ≤ b) (hb2 : b ≤ 9223372036854775807) (hc1 : -9223372036854775808 ≤ c) (hc2 : c ≤ 9223372036854775807)
  (Hk : Hid (pickI kd 24 = (k : Int))) (Hx : Hid (pickI a 4 = (x : Int))) (Hy : Hid (pickI b 12 = (y : Int))) (H3 : Hid (pickI c 3 = (z3 : Int))) (H4 : Hid (pickI c 4 = (z4 : Int))) (hk24 : k < 24) (hx4 : x < 4) (hy12 : y < 12) (hz3 : z3 < 3) (hz4 : z4 < 4) (h : k = 6) :
  Calls Tryz.prog 11 #[.agg #[.int .i64 kd, .int .i64 a, .int .i64 b, .int .i64 c]] w fun e w' => e = .returned (.agg #[.int .i64 (rawK 6 z3), .string ⟨#[]⟩, .string ⟨#[]⟩]) ∧ Below w.heap.size w w' := by
 subst h
 have hg := kind_get z3
 have hns := numAt_size y
 go_enter Tryz.func11, Tryz.ntmps11
 go_wp2_with fail
 refine (picked_any a 4 _ ha1 ha2 (by omega) (by omega)).mono ?_
 rw [Hx.out]
 rintro e w1 ⟨rfl, rfl⟩
 go_wp2_with fail
 rw [key_get]
 refine (picked_any b 12 _ hb1 hb2 (by omega) (by omega)).mono ?_
 rw [Hy.out]
 rintro e w2 ⟨rfl, rfl⟩
 go_wp2_with fail
 refine (itoa_any y _ hy12).mono ?_
 rintro e w3 ⟨rfl, rfl⟩
 go_wp2_with fail
 rw [show (⟨#[118]⟩ : ByteArray) ++ numAt y = valAt y from rfl]
 have hvs := valAt_size y
 clear hns
 refine (picked_any kd 24 _ hk1 hk2 (by omega) (by omega)).mono ?_
 rw [Hk.out]
 rintro e w4 ⟨rfl, rfl⟩
 go_wp2_with fail
 refine (picked_any c 3 _ hc1 hc2 (by omega) (by omega)).mono ?_
 rw [H3.out]
 rintro e w5 ⟨rfl, rfl⟩
 go_wp2_with fail
 go_wp2
 refine bodyPost_ret (v := .agg #[.int .i64 (rawK 6 z3), .string ⟨#[]⟩, .string ⟨#[]⟩]) (by simp [results, Tryz.results11, go_sem]) rfl ⟨rfl, ?_⟩
 repeat' (first | exact Below.refl _ _ | assumption | with_reducible refine below_drewN ?_ _ | with_reducible refine Below.drew ?_ | with_reducible refine Below.setCell ?_ ?_ _ | with_reducible refine Below.alloc ?_ ?_ _ | (simp; done) | (simp; omega))
set_option maxHeartbeats 1000000 in
theorem stmt_6 (kd a b c : Int) (k x y z3 z4 : Nat) (w : World) (hk1 : -9223372036854775808 ≤ kd) (hk2 : kd ≤ 9223372036854775807) (ha1 : -9223372036854775808 ≤ a) (ha2 : a ≤ 9223372036854775807) (hb1 : -9223372036854775808 ≤ b) (hb2 : b ≤ 9223372036854775807) (hc1 : -9223372036854775808 ≤ c) (hc2 : c ≤ 9223372036854775807)
  (Hk : Hid (pickI kd 24 = (k : Int))) (Hx : Hid (pickI a 4 = (x : Int))) (Hy : Hid (pickI b 12 = (y : Int))) (H3 : Hid (pickI c 3 = (z3 : Int))) (H4 : Hid (pickI c 4 = (z4 : Int))) (hk24 : k < 24) (hx4 : x < 4) (hy12 : y < 12) (hz3 : z3 < 3) (hz4 : z4 < 4) (h : 6 < k ∧ k < 10) :
  Calls Tryz.prog 11 #[.agg #[.int .i64 kd, .int .i64 a, .int .i64 b, .int .i64 c]] w fun e w' => e = .returned (.agg #[.int .i64 6, .string (keyAt x), .string ⟨#[]⟩]) ∧ Below w.heap.size w w' := by
 obtain ⟨h, h'⟩ := h
 have n5 : ((k : Int) == 5) = false := beq_eq_false_iff_ne.2 (by omega)
 have n6 : ((k : Int) == 6) = false := beq_eq_false_iff_ne.2 (by omega)
 have hns := numAt_size y
 go_enter Tryz.func11, Tryz.ntmps11
 go_wp2_with fail
 refine (picked_any a 4 _ ha1 ha2 (by omega) (by omega)).mono ?_
 rw [Hx.out]
 rintro e w1 ⟨rfl, rfl⟩
 go_wp2_with fail
 rw [key_get]
 refine (picked_any b 12 _ hb1 hb2 (by omega) (by omega)).mono ?_
 rw [Hy.out]
 rintro e w2 ⟨rfl, rfl⟩
 go_wp2_with fail
 refine (itoa_any y _ hy12).mono ?_
 rintro e w3 ⟨rfl, rfl⟩
 go_wp2_with fail
 rw [show (⟨#[118]⟩ : ByteArray) ++ numAt y = valAt y from rfl]
 have hvs := valAt_size y
 clear hns
 refine (picked_any kd 24 _ hk1 hk2 (by omega) (by omega)).mono ?_
 rw [Hk.out]
 rintro e w4 ⟨rfl, rfl⟩
 go_wp2
 refine bodyPost_ret (v := .agg #[.int .i64 6, .string (keyAt x), .string ⟨#[]⟩]) (by simp [results, Tryz.results11, go_sem]) rfl ⟨rfl, ?_⟩
 repeat' (first | exact Below.refl _ _ | assumption | with_reducible refine below_drewN ?_ _ | with_reducible refine Below.drew ?_ | with_reducible refine Below.setCell ?_ ?_ _ | with_reducible refine Below.alloc ?_ ?_ _ | (simp; done) | (simp; omega))
set_option maxHeartbeats 1000000 in
theorem stmt_7 (kd a b c : Int) (k x y z3 z4 : Nat) (w : World) (hk1 : -9223372036854775808 ≤ kd) (hk2 : kd ≤ 9223372036854775807) (ha1 : -9223372036854775808 ≤ a) (ha2 : a ≤ 9223372036854775807) (hb1 : -9223372036854775808 ≤ b) (hb2 : b ≤ 9223372036854775807) (hc1 : -9223372036854775808 ≤ c) (hc2 : c ≤ 9223372036854775807)
  (Hk : Hid (pickI kd 24 = (k : Int))) (Hx : Hid (pickI a 4 = (x : Int))) (Hy : Hid (pickI b 12 = (y : Int))) (H3 : Hid (pickI c 3 = (z3 : Int))) (H4 : Hid (pickI c 4 = (z4 : Int))) (hk24 : k < 24) (hx4 : x < 4) (hy12 : y < 12) (hz3 : z3 < 3) (hz4 : z4 < 4) (h : ¬ k < 10 ∧ k < 13) :
  Calls Tryz.prog 11 #[.agg #[.int .i64 kd, .int .i64 a, .int .i64 b, .int .i64 c]] w fun e w' => e = .returned (.agg #[.int .i64 7, .string (keyAt x), .string ⟨#[]⟩]) ∧ Below w.heap.size w w' := by
 obtain ⟨h, h'⟩ := h
 have n5 : ((k : Int) == 5) = false := beq_eq_false_iff_ne.2 (by omega)
 have n6 : ((k : Int) == 6) = false := beq_eq_false_iff_ne.2 (by omega)
 have hns := numAt_size y
 go_enter Tryz.func11, Tryz.ntmps11
 go_wp2_with fail
 refine (picked_any a 4 _ ha1 ha2 (by omega) (by omega)).mono ?_
 rw [Hx.out]
 rintro e w1 ⟨rfl, rfl⟩
 go_wp2_with fail
 rw [key_get]
 refine (picked_any b 12 _ hb1 hb2 (by omega) (by omega)).mono ?_
 rw [Hy.out]
 rintro e w2 ⟨rfl, rfl⟩
 go_wp2_with fail
 refine (itoa_any y _ hy12).mono ?_
 rintro e w3 ⟨rfl, rfl⟩
 go_wp2_with fail
 rw [show (⟨#[118]⟩ : ByteArray) ++ numAt y = valAt y from rfl]
 have hvs := valAt_size y
 clear hns
 refine (picked_any kd 24 _ hk1 hk2 (by omega) (by omega)).mono ?_
 rw [Hk.out]
 rintro e w4 ⟨rfl, rfl⟩
 go_wp2
 refine bodyPost_ret (v := .agg #[.int .i64 7, .string (keyAt x), .string ⟨#[]⟩]) (by simp [results, Tryz.results11, go_sem]) rfl ⟨rfl, ?_⟩
 repeat' (first | exact Below.refl _ _ | assumption | with_reducible refine below_drewN ?_ _ | with_reducible refine Below.drew ?_ | with_reducible refine Below.setCell ?_ ?_ _ | with_reducible refine Below.alloc ?_ ?_ _ | (simp; done) | (simp; omega))
set_option maxHeartbeats 1000000 in
theorem stmt_8 (kd a b c : Int) (k x y z3 z4 : Nat) (w : World) (hk1 : -9223372036854775808 ≤ kd) (hk2 : kd ≤ 9223372036854775807) (ha1 : -9223372036854775808 ≤ a) (ha2 : a ≤ 9223372036854775807) (hb1 : -9223372036854775808 ≤ b) (hb2 : b ≤ 9223372036854775807) (hc1 : -9223372036854775808 ≤ c) (hc2 : c ≤ 9223372036854775807)
  (Hk : Hid (pickI kd 24 = (k : Int))) (Hx : Hid (pickI a 4 = (x : Int))) (Hy : Hid (pickI b 12 = (y : Int))) (H3 : Hid (pickI c 3 = (z3 : Int))) (H4 : Hid (pickI c 4 = (z4 : Int))) (hk24 : k < 24) (hx4 : x < 4) (hy12 : y < 12) (hz3 : z3 < 3) (hz4 : z4 < 4) (h : ¬ k < 13 ∧ k < 15) :
  Calls Tryz.prog 11 #[.agg #[.int .i64 kd, .int .i64 a, .int .i64 b, .int .i64 c]] w fun e w' => e = .returned (.agg #[.int .i64 8, .string (keyAt x), .string ⟨#[]⟩]) ∧ Below w.heap.size w w' := by
 obtain ⟨h, h'⟩ := h
 have n5 : ((k : Int) == 5) = false := beq_eq_false_iff_ne.2 (by omega)
 have n6 : ((k : Int) == 6) = false := beq_eq_false_iff_ne.2 (by omega)
 have hns := numAt_size y
 go_enter Tryz.func11, Tryz.ntmps11
 go_wp2_with fail
 refine (picked_any a 4 _ ha1 ha2 (by omega) (by omega)).mono ?_
 rw [Hx.out]
 rintro e w1 ⟨rfl, rfl⟩
 go_wp2_with fail
 rw [key_get]
 refine (picked_any b 12 _ hb1 hb2 (by omega) (by omega)).mono ?_
 rw [Hy.out]
 rintro e w2 ⟨rfl, rfl⟩
 go_wp2_with fail
 refine (itoa_any y _ hy12).mono ?_
 rintro e w3 ⟨rfl, rfl⟩
 go_wp2_with fail
 rw [show (⟨#[118]⟩ : ByteArray) ++ numAt y = valAt y from rfl]
 have hvs := valAt_size y
 clear hns
 refine (picked_any kd 24 _ hk1 hk2 (by omega) (by omega)).mono ?_
 rw [Hk.out]
 rintro e w4 ⟨rfl, rfl⟩
 go_wp2
 refine bodyPost_ret (v := .agg #[.int .i64 8, .string (keyAt x), .string ⟨#[]⟩]) (by simp [results, Tryz.results11, go_sem]) rfl ⟨rfl, ?_⟩
 repeat' (first | exact Below.refl _ _ | assumption | with_reducible refine below_drewN ?_ _ | with_reducible refine Below.drew ?_ | with_reducible refine Below.setCell ?_ ?_ _ | with_reducible refine Below.alloc ?_ ?_ _ | (simp; done) | (simp; omega))
set_option maxHeartbeats 1000000 in
theorem stmt_9 (kd a b c : Int) (k x y z3 z4 : Nat) (w : World) (hk1 : -9223372036854775808 ≤ kd) (hk2 : kd ≤ 9223372036854775807) (ha1 : -9223372036854775808 ≤ a) (ha2 : a ≤ 9223372036854775807) (hb1 : -9223372036854775808 ≤ b) (hb2 : b ≤ 9223372036854775807) (hc1 : -9223372036854775808 ≤ c) (hc2 : c ≤ 9223372036854775807)
  (Hk : Hid (pickI kd 24 = (k : Int))) (Hx : Hid (pickI a 4 = (x : Int))) (Hy : Hid (pickI b 12 = (y : Int))) (H3 : Hid (pickI c 3 = (z3 : Int))) (H4 : Hid (pickI c 4 = (z4 : Int))) (hk24 : k < 24) (hx4 : x < 4) (hy12 : y < 12) (hz3 : z3 < 3) (hz4 : z4 < 4) (h : ¬ k < 15 ∧ k < 18) :
  Calls Tryz.prog 11 #[.agg #[.int .i64 kd, .int .i64 a, .int .i64 b, .int .i64 c]] w fun e w' => e = .returned (.agg #[.int .i64 9, .string (keyAt x), .string (valAt y)]) ∧ Below w.heap.size w w' := by
 obtain ⟨h, h'⟩ := h
 have n5 : ((k : Int) == 5) = false := beq_eq_false_iff_ne.2 (by omega)
 have n6 : ((k : Int) == 6) = false := beq_eq_false_iff_ne.2 (by omega)
 have hns := numAt_size y
 go_enter Tryz.func11, Tryz.ntmps11
 go_wp2_with fail
 refine (picked_any a 4 _ ha1 ha2 (by omega) (by omega)).mono ?_
 rw [Hx.out]
 rintro e w1 ⟨rfl, rfl⟩
 go_wp2_with fail
 rw [key_get]
 refine (picked_any b 12 _ hb1 hb2 (by omega) (by omega)).mono ?_
 rw [Hy.out]
 rintro e w2 ⟨rfl, rfl⟩
 go_wp2_with fail
 refine (itoa_any y _ hy12).mono ?_
 rintro e w3 ⟨rfl, rfl⟩
 go_wp2_with fail
 rw [show (⟨#[118]⟩ : ByteArray) ++ numAt y = valAt y from rfl]
 have hvs := valAt_size y
 clear hns
 refine (picked_any kd 24 _ hk1 hk2 (by omega) (by omega)).mono ?_
 rw [Hk.out]
 rintro e w4 ⟨rfl, rfl⟩
 go_wp2
 refine bodyPost_ret (v := .agg #[.int .i64 9, .string (keyAt x), .string (valAt y)]) (by simp [results, Tryz.results11, go_sem]) rfl ⟨rfl, ?_⟩
 repeat' (first | exact Below.refl _ _ | assumption | with_reducible refine below_drewN ?_ _ | with_reducible refine Below.drew ?_ | with_reducible refine Below.setCell ?_ ?_ _ | with_reducible refine Below.alloc ?_ ?_ _ | (simp; done) | (simp; omega))
set_option maxHeartbeats 1000000 in
theorem stmt_10 (kd a b c : Int) (k x y z3 z4 : Nat) (w : World) (hk1 : -9223372036854775808 ≤ kd) (hk2 : kd ≤ 9223372036854775807) (ha1 : -9223372036854775808 ≤ a) (ha2 : a ≤ 9223372036854775807) (hb1 : -9223372036854775808 ≤ b) (hb2 : b ≤ 9223372036854775807) (hc1 : -9223372036854775808 ≤ c) (hc2 : c ≤ 9223372036854775807)
  (Hk : Hid (pickI kd 24 = (k : Int))) (Hx : Hid (pickI a 4 = (x : Int))) (Hy : Hid (pickI b 12 = (y : Int))) (H3 : Hid (pickI c 3 = (z3 : Int))) (H4 : Hid (pickI c 4 = (z4 : Int))) (hk24 : k < 24) (hx4 : x < 4) (hy12 : y < 12) (hz3 : z3 < 3) (hz4 : z4 < 4) (h : ¬ k < 18 ∧ k < 22) :
  Calls Tryz.prog 11 #[.agg #[.int .i64 kd, .int .i64 a, .int .i64 b, .int .i64 c]] w fun e w' => e = .returned (.agg #[.int .i64 10, .string (keyAt x), .string (valAt y)]) ∧ Below w.heap.size w w' := by
 obtain ⟨h, h'⟩ := h
 have n5 : ((k : Int) == 5) = false := beq_eq_false_iff_ne.2 (by omega)
 have n6 : ((k : Int) == 6) = false := beq_eq_false_iff_ne.2 (by omega)
 have hns := numAt_size y
 go_enter Tryz.func11, Tryz.ntmps11
 go_wp2_with fail
 refine (picked_any a 4 _ ha1 ha2 (by omega) (by omega)).mono ?_
 rw [Hx.out]
 rintro e w1 ⟨rfl, rfl⟩
 go_wp2_with fail
 rw [key_get]
 refine (picked_any b 12 _ hb1 hb2 (by omega) (by omega)).mono ?_
 rw [Hy.out]
 rintro e w2 ⟨rfl, rfl⟩
 go_wp2_with fail
 refine (itoa_any y _ hy12).mono ?_
 rintro e w3 ⟨rfl, rfl⟩
 go_wp2_with fail
 rw [show (⟨#[118]⟩ : ByteArray) ++ numAt y = valAt y from rfl]
 have hvs := valAt_size y
 clear hns
 refine (picked_any kd 24 _ hk1 hk2 (by omega) (by omega)).mono ?_
 rw [Hk.out]
 rintro e w4 ⟨rfl, rfl⟩
 go_wp2
 refine bodyPost_ret (v := .agg #[.int .i64 10, .string (keyAt x), .string (valAt y)]) (by simp [results, Tryz.results11, go_sem]) rfl ⟨rfl, ?_⟩
 repeat' (first | exact Below.refl _ _ | assumption | with_reducible refine below_drewN ?_ _ | with_reducible refine Below.drew ?_ | with_reducible refine Below.setCell ?_ ?_ _ | with_reducible refine Below.alloc ?_ ?_ _ | (simp; done) | (simp; omega))
set_option maxHeartbeats 1000000 in
theorem stmt_11 (kd a b c : Int) (k x y z3 z4 : Nat) (w : World) (hk1 : -9223372036854775808 ≤ kd) (hk2 : kd ≤ 9223372036854775807) (ha1 : -9223372036854775808 ≤ a) (ha2 : a ≤ 9223372036854775807) (hb1 : -9223372036854775808 ≤ b) (hb2 : b ≤ 9223372036854775807) (hc1 : -9223372036854775808 ≤ c) (hc2 : c ≤ 9223372036854775807)
  (Hk : Hid (pickI kd 24 = (k : Int))) (Hx : Hid (pickI a 4 = (x : Int))) (Hy : Hid (pickI b 12 = (y : Int))) (H3 : Hid (pickI c 3 = (z3 : Int))) (H4 : Hid (pickI c 4 = (z4 : Int))) (hk24 : k < 24) (hx4 : x < 4) (hy12 : y < 12) (hz3 : z3 < 3) (hz4 : z4 < 4) (h : ¬ k < 22) :
  Calls Tryz.prog 11 #[.agg #[.int .i64 kd, .int .i64 a, .int .i64 b, .int .i64 c]] w fun e w' => e = .returned (.agg #[.int .i64 11, .string (keyAt x), .string (prepAt z4 y)]) ∧ Below w.heap.size w w' := by
 have n5 : ((k : Int) == 5) = false := beq_eq_false_iff_ne.2 (by omega)
 have n6 : ((k : Int) == 6) = false := beq_eq_false_iff_ne.2 (by omega)
 have hg := prep_get y z4
 have hns := numAt_size y
 go_enter Tryz.func11, Tryz.ntmps11
 go_wp2_with fail
 refine (picked_any a 4 _ ha1 ha2 (by omega) (by omega)).mono ?_
 rw [Hx.out]
 rintro e w1 ⟨rfl, rfl⟩
 go_wp2_with fail
 rw [key_get]
 refine (picked_any b 12 _ hb1 hb2 (by omega) (by omega)).mono ?_
 rw [Hy.out]
 rintro e w2 ⟨rfl, rfl⟩
 go_wp2_with fail
 refine (itoa_any y _ hy12).mono ?_
 rintro e w3 ⟨rfl, rfl⟩
 go_wp2_with fail
 rw [show (⟨#[118]⟩ : ByteArray) ++ numAt y = valAt y from rfl]
 have hvs := valAt_size y
 clear hns
 refine (picked_any kd 24 _ hk1 hk2 (by omega) (by omega)).mono ?_
 rw [Hk.out]
 rintro e w4 ⟨rfl, rfl⟩
 go_wp2_with fail
 refine (picked_any c 4 _ hc1 hc2 (by omega) (by omega)).mono ?_
 rw [H4.out]
 rintro e w5 ⟨rfl, rfl⟩
 go_wp2
 refine bodyPost_ret (v := .agg #[.int .i64 11, .string (keyAt x), .string (prepAt z4 y)]) (by simp [results, Tryz.results11, go_sem]) rfl ⟨rfl, ?_⟩
 repeat' (first | exact Below.refl _ _ | assumption | with_reducible refine below_drewN ?_ _ | with_reducible refine Below.drew ?_ | with_reducible refine Below.setCell ?_ ?_ _ | with_reducible refine Below.alloc ?_ ?_ _ | (simp; done) | (simp; omega))
theorem stmt_any (kd a b c : Int) (w : World) (hk : (Lit.int .i64 kd).wf = true) (ha : (Lit.int .i64 a).wf = true) (hb : (Lit.int .i64 b).wf = true) (hc : (Lit.int .i64 c).wf = true) :
  Calls Tryz.prog 11 #[.agg #[.int .i64 kd, .int .i64 a, .int .i64 b, .int .i64 c]] w fun e w' =>
   e = .returned (.agg #[.int .i64 (rawK (pickI kd 24).toNat (pickI c 3).toNat), .string (rawKey (pickI kd 24).toNat (pickI a 4).toNat), .string (rawVal (pickI kd 24).toNat (pickI b 12).toNat (pickI c 4).toNat)]) ∧ Below w.heap.size w w' := by
 obtain ⟨hk1, hk2⟩ := i64_bd hk
 obtain ⟨ha1, ha2⟩ := i64_bd ha
 obtain ⟨hb1, hb2⟩ := i64_bd hb
 obtain ⟨hc1, hc2⟩ := i64_bd hc
 obtain ⟨k, Hk, hk24⟩ := pick_some kd 24 (by omega)
 obtain ⟨x, Hx, hx4⟩ := pick_some a 4 (by omega)
 obtain ⟨y, Hy, hy12⟩ := pick_some b 12 (by omega)
 obtain ⟨z3, H3, hz3⟩ := pick_some c 3 (by omega)
 obtain ⟨z4, H4, hz4⟩ := pick_some c 4 (by omega)
 rw [show pickI kd 24 = (k : Int) from Hk, show pickI a 4 = (x : Int) from Hx, show pickI b 12 = (y : Int) from Hy, show pickI c 3 = (z3 : Int) from H3, show pickI c 4 = (z4 : Int) from H4]
 simp only [Int.toNat_natCast]
 have hcase : k < 3 ∨ (¬ k < 3 ∧ k < 5) ∨ k = 5 ∨ k = 6 ∨ (6 < k ∧ k < 10) ∨ (¬ k < 10 ∧ k < 13) ∨ (¬ k < 13 ∧ k < 15) ∨ (¬ k < 15 ∧ k < 18) ∨ (¬ k < 18 ∧ k < 22) ∨ ¬ k < 22 := by omega
 rcases hcase with h | h | h | h | h | h | h | h | h | h
 ·have e1 : rawK k z3 = 1 := by unfold rawK; rw [if_pos h]
  have e2 : rawKey k x = ⟨#[]⟩ := by unfold rawKey; rw [if_pos (by omega)]
  have e3 : rawVal k y z4 = ⟨#[]⟩ := by unfold rawVal; rw [if_pos (by omega)]
  rw [e1, e2, e3]
  exact stmt_1 kd a b c k x y z3 z4 w hk1 hk2 ha1 ha2 hb1 hb2 hc1 hc2 Hk Hx Hy H3 H4 hk24 hx4 hy12 hz3 hz4 h
 ·have e1 : rawK k z3 = 2 := by unfold rawK; rw [if_neg h.1, if_pos h.2]
  have e2 : rawKey k x = ⟨#[]⟩ := by unfold rawKey; rw [if_pos (by omega)]
  have e3 : rawVal k y z4 = ⟨#[]⟩ := by unfold rawVal; rw [if_pos (by omega)]
  rw [e1, e2, e3]
  exact stmt_2 kd a b c k x y z3 z4 w hk1 hk2 ha1 ha2 hb1 hb2 hc1 hc2 Hk Hx Hy H3 H4 hk24 hx4 hy12 hz3 hz4 h
 ·subst h
  exact stmt_3 kd a b c 5 x y z3 z4 w hk1 hk2 ha1 ha2 hb1 hb2 hc1 hc2 Hk Hx Hy H3 H4 hk24 hx4 hy12 hz3 hz4 rfl
 ·subst h
  exact stmt_4 kd a b c 6 x y z3 z4 w hk1 hk2 ha1 ha2 hb1 hb2 hc1 hc2 Hk Hx Hy H3 H4 hk24 hx4 hy12 hz3 hz4 rfl
 ·have e1 : rawK k z3 = 6 := by unfold rawK; rw [if_neg (by omega), if_neg (by omega), if_neg (by omega), if_neg (by omega), if_pos h.2]
  have e2 : rawKey k x = keyAt x := by unfold rawKey; rw [if_neg (by omega)]
  have e3 : rawVal k y z4 = ⟨#[]⟩ := by unfold rawVal; rw [if_pos (by omega)]
  rw [e1, e2, e3]
  exact stmt_6 kd a b c k x y z3 z4 w hk1 hk2 ha1 ha2 hb1 hb2 hc1 hc2 Hk Hx Hy H3 H4 hk24 hx4 hy12 hz3 hz4 h
 ·have e1 : rawK k z3 = 7 := by unfold rawK; rw [if_neg (by omega), if_neg (by omega), if_neg (by omega), if_neg (by omega), if_neg h.1, if_pos h.2]
  have e2 : rawKey k x = keyAt x := by unfold rawKey; rw [if_neg (by omega)]
  have e3 : rawVal k y z4 = ⟨#[]⟩ := by unfold rawVal; rw [if_pos (by omega)]
  rw [e1, e2, e3]
  exact stmt_7 kd a b c k x y z3 z4 w hk1 hk2 ha1 ha2 hb1 hb2 hc1 hc2 Hk Hx Hy H3 H4 hk24 hx4 hy12 hz3 hz4 h
 ·have e1 : rawK k z3 = 8 := by unfold rawK; rw [if_neg (by omega), if_neg (by omega), if_neg (by omega), if_neg (by omega), if_neg (by omega), if_neg h.1, if_pos h.2]
  have e2 : rawKey k x = keyAt x := by unfold rawKey; rw [if_neg (by omega)]
  have e3 : rawVal k y z4 = ⟨#[]⟩ := by unfold rawVal; rw [if_pos (by omega)]
  rw [e1, e2, e3]
  exact stmt_8 kd a b c k x y z3 z4 w hk1 hk2 ha1 ha2 hb1 hb2 hc1 hc2 Hk Hx Hy H3 H4 hk24 hx4 hy12 hz3 hz4 h
 ·have e1 : rawK k z3 = 9 := by unfold rawK; rw [if_neg (by omega), if_neg (by omega), if_neg (by omega), if_neg (by omega), if_neg (by omega), if_neg (by omega), if_neg h.1, if_pos h.2]
  have e2 : rawKey k x = keyAt x := by unfold rawKey; rw [if_neg (by omega)]
  have e3 : rawVal k y z4 = valAt y := by unfold rawVal; rw [if_neg (by omega), if_pos (by omega)]
  rw [e1, e2, e3]
  exact stmt_9 kd a b c k x y z3 z4 w hk1 hk2 ha1 ha2 hb1 hb2 hc1 hc2 Hk Hx Hy H3 H4 hk24 hx4 hy12 hz3 hz4 h
 ·have e1 : rawK k z3 = 10 := by unfold rawK; rw [if_neg (by omega), if_neg (by omega), if_neg (by omega), if_neg (by omega), if_neg (by omega), if_neg (by omega), if_neg (by omega), if_neg h.1, if_pos h.2]
  have e2 : rawKey k x = keyAt x := by unfold rawKey; rw [if_neg (by omega)]
  have e3 : rawVal k y z4 = valAt y := by unfold rawVal; rw [if_neg (by omega), if_pos (by omega)]
  rw [e1, e2, e3]
  exact stmt_10 kd a b c k x y z3 z4 w hk1 hk2 ha1 ha2 hb1 hb2 hc1 hc2 Hk Hx Hy H3 H4 hk24 hx4 hy12 hz3 hz4 h
 ·have e1 : rawK k z3 = 11 := by unfold rawK; rw [if_neg (by omega), if_neg (by omega), if_neg (by omega), if_neg (by omega), if_neg (by omega), if_neg (by omega), if_neg (by omega), if_neg (by omega), if_neg h]
  have e2 : rawKey k x = keyAt x := by unfold rawKey; rw [if_neg (by omega)]
  have e3 : rawVal k y z4 = prepAt z4 y := by unfold rawVal; rw [if_neg (by omega), if_neg h]
  rw [e1, e2, e3]
  exact stmt_11 kd a b c k x y z3 z4 w hk1 hk2 ha1 ha2 hb1 hb2 hc1 hc2 Hk Hx Hy H3 H4 hk24 hx4 hy12 hz3 hz4 h
end Go.Proofs.YtpbaobmegomfpabGreatDoor
namespace Go.Proofs.YtpbaobmegomfpabGreatDoor
open Go
section
variable {P : Program} {ops : Array Oper} {Q : Exit → Go.Act → World → Prop} {md : Region.Mode} {S : World → Prop} {z : Nat}
def wpAnyZ (P : Program) (md : Region.Mode) (ops : Array Oper) (Q : Exit → Go.Act → World → Prop) (S : World → Prop) (z : Nat) : Nat → Array Bool → Go.Act → World → Prop
 | 0, listed, a, w => Region.ready md ops listed = [] ∧ Q .normal a w
 | fuel + 1, listed, a, w =>
  (Region.ready md ops listed = [] → Q .normal a w) ∧
  ∀ i ∈ Region.ready md ops listed, wpOp P ops Q i (fun a' w' => (i ≠ z → S w') ∧ wpAnyZ P md ops Q S z fuel (listed.setIfInBounds i true) a' w') a w
theorem wpAny_of_z : ∀ (fuel : Nat) (listed : Array Bool) (a : Go.Act) (w : World), wpAnyZ P md ops Q S z fuel listed a w → wpAny P md ops Q fuel listed a w
 | 0, _, _, _, h => h
 | fuel + 1, _, _, _, h => ⟨h.1, fun i hi => wpOp_mono (fun a' w' h' => wpAny_of_z fuel _ a' w' h'.2) (h.2 i hi)⟩
def waitsFor (md : Region.Mode) (ops : Array Oper) (z i : Nat) : Bool := match ops[z]? with
 | some oz => oz.after.any fun e => Region.binds md e && e.on == i
 | none => false
theorem wpAnyZ_first {i : Nat} {oi : Oper} {v : Value} (hi : ops[i]? = some oi) (hsel : ∀ (j : Nat) (o : Oper) cs b, ops[j]? = some o → o.op ≠ .select cs b) (hz : waitsFor md ops z i = true) (hiz : i ≠ z)
  (hQ : ∀ c a w, Q (.panic c) (a.put oi.dst v) w → Q (.panic c) a w) :
  ∀ (fuel : Nat) (listed : Array Bool) (a : Go.Act) (w : World),
   (∀ j oj, ops[j]? = some oj → j ≠ i → listed.getD j true = false → (∀ e ∈ oj.after, Region.binds md e = true → e.on ≠ i) → oi.apart ops oj = true) →
   i ∈ Region.ready md ops listed → YieldsIf P ops S oi v a → S w →
   wpAnyZ P md ops Q S z fuel (listed.setIfInBounds i true) (a.put oi.dst v) w → wpAnyZ P md ops Q S z (fuel + 1) listed a w := by
 intro fuel
 induction fuel with
 | zero =>
  intro listed a w _ hr hy hS H
  refine ⟨fun h => (by rw [h] at hr; cases hr), fun j hj => ?_⟩
  by_cases hji : j = i
  ·subst hji; exact hy.wpOp hi hS ⟨fun _ => hS, H⟩
  ·have := ready_mono hj hji
   rw [H.1] at this
   cases this
 | succ fuel ih =>
  intro listed a w hfree hr hy hS H
  refine ⟨fun h => (by rw [h] at hr; cases hr), fun j hj => ?_⟩
  by_cases hji : j = i
  ·subst hji; exact hy.wpOp hi hS ⟨fun _ => hS, H⟩
  ·have h1 := H.2 j (ready_mono hj hji)
   obtain ⟨hjun, oj, hoj, hall⟩ := mem_ready.1 hj
   have hnot : ∀ e ∈ oj.after, Region.binds md e = true → e.on ≠ i := fun e he hb heq => by
    have h1 := hall e he hb
    have h0 := (mem_ready.1 hr).1
    rw [heq] at h1
    rcases Nat.lt_or_ge i listed.size with h' | h'
    ·simp [h'] at h0 h1; rw [h0] at h1; cases h1
    ·simp [Array.getElem?_eq_none h'] at h1
   have hjz : j ≠ z := fun e => by
    unfold waitsFor at hz
    rw [← e, hoj] at hz
    simp only [Array.any_eq_true'] at hz
    obtain ⟨x, hx, hb⟩ := hz
    simp only [Bool.and_eq_true, beq_iff_eq] at hb
    exact hnot x hx hb.1 hb.2
   have h2 := wpOp_putIf hoj (hfree j oj hoj hji hjun hnot) (fun cs b => hsel i oi cs b hi) (fun cs b => hsel j oj cs b hoj) hQ hy h1
   have hfree' : ∀ k ok, ops[k]? = some ok → k ≠ i → (listed.setIfInBounds j true).getD k true = false →
     (∀ e ∈ ok.after, Region.binds md e = true → e.on ≠ i) → oi.apart ops ok = true := fun k ok hk hki hun hno => by
    refine hfree k ok hk hki ?_ hno
    by_cases hjk : j = k
    ·subst hjk; exact hjun
    ·rw [getD_set_ne true hjk] at hun; exact hun
   refine wpOp_mono (fun a' w' h3 => ⟨h3.2.1, ih (listed.setIfInBounds j true) a' w' hfree' (ready_mono hr (Ne.symm hji)) h3.1 (h3.2.1 hjz) ?_⟩) h2
   rw [Array.setIfInBounds_comm _ _ hji]
   exact h3.2.2
theorem wpAnyZ_take {i : Nat} {oi : Oper} {v : Value} {fuel : Nat} {listed : Array Bool} {a : Go.Act} {w : World} (hi : ops[i]? = some oi)
  (hs : Region.noSelect ops = true) (hf : Region.free md ops listed i = true) (hr : (Region.ready md ops listed).contains i = true) (hz : (waitsFor md ops z i && i != z) = true)
  (hQ : ∀ c a w, Q (.panic c) (a.put oi.dst v) w → Q (.panic c) a w) (hy : YieldsIf P ops S oi v a) (hS : S w)
  (h : wpAnyZ P md ops Q S z fuel (listed.setIfInBounds i true) (a.put oi.dst v) w) : wpAnyZ P md ops Q S z (fuel + 1) listed a w :=
 wpAnyZ_first hi (Region.noSelect_spec hs) (by simp only [Bool.and_eq_true] at hz; exact hz.1) (by simp only [Bool.and_eq_true, bne_iff_ne] at hz; exact hz.2) hQ fuel listed a w (Region.free_spec hi hf) (by simpa using hr) hy hS h
theorem wpAnyZ_one {i : Nat} {o : Oper} {fuel : Nat} {listed : Array Bool} {a : Go.Act} {w : World} (ho : ops[i]? = some o) (hg : o.guard = none) (hr : Region.ready md ops listed = [i])
  (h : ∀ K' : Go.Act → World → Prop, Shut (∀ a w, S w → wpAnyZ P md ops Q S z fuel (listed.setIfInBounds i true) a w → K' a w) → Oper.wp P o a w K' Q) : wpAnyZ P md ops Q S z (fuel + 1) listed a w := by
 refine ⟨fun h0 => (by rw [hr] at h0; cases h0), fun j hj => ?_⟩
 rw [hr] at hj
 obtain rfl := List.mem_singleton.1 hj
 refine wpOp_step ho fun K' hK => ?_
 rw [if_pos (by simp [Region.wanted, hg])]
 exact h K' (fun a w hS hW => hK a w ⟨fun _ => hS, hW⟩)
theorem wpAnyZ_last {o : Oper} {fuel : Nat} {listed : Array Bool} {a : Go.Act} {w : World} (ho : ops[z]? = some o) (hg : o.guard = none) (hr : Region.ready md ops listed = [z]) (hr' : Region.ready md ops (listed.setIfInBounds z true) = [])
  (h : ∀ K' : Go.Act → World → Prop, Shut (∀ a w, Q .normal a w → K' a w) → Oper.wp P o a w K' Q) : wpAnyZ P md ops Q S z (fuel + 1) listed a w := by
 refine ⟨fun h0 => (by rw [hr] at h0; cases h0), fun j hj => ?_⟩
 rw [hr] at hj
 obtain rfl := List.mem_singleton.1 hj
 refine wpOp_step ho fun K' hK => ?_
 rw [if_pos (by simp [Region.wanted, hg])]
 refine h K' (fun a w hq => hK a w ⟨fun hne => absurd rfl hne, ?_⟩)
 cases fuel with
 | zero => exact ⟨hr', hq⟩
 | succ n => exact ⟨fun _ => hq, by rw [hr']; simp⟩
theorem wp_region_z (z : Nat) (S : World → Prop) {id : Nat} {a : Go.Act} {w : World} (hm : P.follows .mixedOrders = true) (hS : S w.drew)
  (h : S w.drew → wpAnyZ P .any ops Q S z ops.size (Array.replicate ops.size false) a w.drew) : (Code.region id ops true).wp P Q a w :=
 wp_region_any hm (wpAny_of_z _ _ _ _ (h hS))
end
section
variable {P : Program} {ops : Array Oper} {Q : Exit → Go.Act → World → Prop} {md : Region.Mode} {S : World → Prop} {z : Nat}
theorem tkZ (i : Nat) {oi : Oper} (v : Value) {fuel : Nat} {listed : Array Bool} {a : Go.Act} {w : World} (hi : ops[i]? = some oi) (hv : ∀ w, S w → (execOp a.eval oi).run P w = .ok (.value v) w) (hS : S w)
    (h : wpAnyZ P md ops Q S z fuel (listed.setIfInBounds i true) (a.put oi.dst v) w) (hw : Region.wanted oi (yielded ops a.tmps) = true := by rfl)
    (hs : Region.noSelect ops = true := by kernel_rfl) (hf : Region.free md ops listed i = true := by kernel_rfl) (hr : (Region.ready md ops listed).contains i = true := by kernel_rfl) (hz : (waitsFor md ops z i && i != z) = true := by kernel_rfl)
    (hQ : ∀ c a w, Q (.panic c) (a.put oi.dst v) w → Q (.panic c) a w := by exact fun _ _ _ h => h) : wpAnyZ P md ops Q S z (fuel + 1) listed a w :=
  wpAnyZ_take hi hs hf hr hz hQ (Or.inl ⟨hw, hv⟩) hS h
end
end Go.Proofs.YtpbaobmegomfpabGreatDoor
