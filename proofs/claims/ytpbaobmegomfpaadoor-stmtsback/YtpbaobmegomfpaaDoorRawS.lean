/-
  The walk of tillermankeep.Stmt.
-/
import Derived.Test.YtpbaobmegomfpaaDoorItoa
import Derived.Test.YtpbaobmegomfpaaDoorPicked
namespace Go.Proofs.YtpbaobmegomfpaaDoor
open Go.RowKit
set_option linter.unusedVariables false
set_option maxRecDepth 100000

theorem pick_some (n : Int) (m : Nat) (hm : 0 < m) : ∃ p : Nat, pickI n m = (p : Int) ∧ p < m := by
  have := pickI_bd n (m := (m : Int)) (by omega)
  exact ⟨(pickI n m).toNat, by omega, by omega⟩
theorem key_get : ∀ (x : Nat) (h : x < [Value.string ⟨#[97]⟩, .string ⟨#[98]⟩, .string ⟨#[114, 111, 119]⟩, .string ⟨#[110, 97, 109, 101]⟩].length), [Value.string ⟨#[97]⟩, .string ⟨#[98]⟩, .string ⟨#[114, 111, 119]⟩, .string ⟨#[110, 97, 109, 101]⟩][x] = .string (keyAt x)
  | 0, _ => rfl
  | 1, _ => rfl
  | 2, _ => rfl
  | 3, _ => rfl
theorem kind_get : ∀ (x : Nat) (h : x < [Value.int .i64 4, .int .i64 5, .int .i64 5].length), [Value.int .i64 4, .int .i64 5, .int .i64 5][x] = .int .i64 (rawK 6 x)
  | 0, _ => rfl
  | 1, _ => rfl
  | 2, _ => rfl
theorem prep_get (b : Nat) : ∀ (x : Nat) (h : x < [Value.string ⟨#[103, 101, 116, 32, 97]⟩, .string ⟨#[114, 101, 97, 100, 32, 114, 111, 119]⟩, .string (⟨#[112, 117, 116, 32, 114, 111, 119, 32]⟩ ++ valAt b), .string ⟨#[112, 117, 116, 32, 98, 32, 120]⟩].length),
    [Value.string ⟨#[103, 101, 116, 32, 97]⟩, .string ⟨#[114, 101, 97, 100, 32, 114, 111, 119]⟩, .string (⟨#[112, 117, 116, 32, 114, 111, 119, 32]⟩ ++ valAt b), .string ⟨#[112, 117, 116, 32, 98, 32, 120]⟩][x] = .string (prepAt x b)
  | 0, _ => rfl
  | 1, _ => rfl
  | 2, _ => rfl
  | 3, _ => rfl
theorem numAt_size (n : Nat) : (numAt n).size ≤ 2 := by
  unfold numAt numL
  split
  · show ([UInt8.ofNat (48 + n)] : List UInt8).toArray.size ≤ 2; simp
  · show ([UInt8.ofNat (48 + n / 10), UInt8.ofNat (48 + n % 10)] : List UInt8).toArray.size ≤ 2; simp
theorem valAt_size (n : Nat) : (valAt n).size ≤ 3 := by
  have := numAt_size n
  unfold valAt; rw [ByteArray.size_append]; show 1 + _ ≤ 3; omega

set_option maxHeartbeats 1000000 in
theorem stmt_1 (kd a b c : Int) (k x y z3 z4 : Nat) (w : World) (hk1 : -9223372036854775808 ≤ kd) (hk2 : kd ≤ 9223372036854775807) (ha1 : -9223372036854775808 ≤ a) (ha2 : a ≤ 9223372036854775807) (hb1 : -9223372036854775808 ≤ b) (hb2 : b ≤ 9223372036854775807) (hc1 : -9223372036854775808 ≤ c) (hc2 : c ≤ 9223372036854775807)
    (Hk : Hid (pickI kd 24 = (k : Int))) (Hx : Hid (pickI a 4 = (x : Int))) (Hy : Hid (pickI b 12 = (y : Int))) (H3 : Hid (pickI c 3 = (z3 : Int))) (H4 : Hid (pickI c 4 = (z4 : Int))) (hk24 : k < 24) (hx4 : x < 4) (hy12 : y < 12) (hz3 : z3 < 3) (hz4 : z4 < 4) (h : k < 3) :
    Calls Tryd.prog 19 #[.agg #[.int .i64 kd, .int .i64 a, .int .i64 b, .int .i64 c]] w fun e w' => e = .returned (.agg #[.int .i64 1, .string ⟨#[]⟩, .string ⟨#[]⟩]) ∧ Below w.heap.size w w' := by
  have hns := numAt_size y
  go_enter Tryd.func19, Tryd.ntmps19
  go_wp2_with fail
  refine (picked_any a 4 _ ha1 ha2 (by omega) (by omega)).mono ?_
  rw [Hx.out]
  rintro e w1 ⟨rfl, rfl⟩
  go_wp2_with fail
  rw [key_get]
  refine (picked_any b 12 _ hb1 hb2 (by omega) (by omega)).mono ?_
  rw [Hy.out]
  rintro e w2 ⟨rfl, rfl⟩
  go_wp2_with fail
  refine (itoa_any y _ hy12).mono ?_
  rintro e w3 ⟨rfl, rfl⟩
  go_wp2_with fail
  rw [show (⟨#[118]⟩ : ByteArray) ++ numAt y = valAt y from rfl]
  have hvs := valAt_size y
  clear hns
  refine (picked_any kd 24 _ hk1 hk2 (by omega) (by omega)).mono ?_
  rw [Hk.out]
  rintro e w4 ⟨rfl, rfl⟩
  go_wp2
  refine bodyPost_ret (v := .agg #[.int .i64 1, .string ⟨#[]⟩, .string ⟨#[]⟩]) (by simp [results, Tryd.results19, go_sem]) rfl ⟨rfl, ?_⟩
  repeat' (first | exact Below.refl _ _ | assumption | with_reducible refine below_drewN ?_ _ | with_reducible refine Below.drew ?_ | with_reducible refine Below.setCell ?_ ?_ _ | with_reducible refine Below.alloc ?_ ?_ _ | (simp; done) | (simp; omega))

set_option maxHeartbeats 1000000 in
theorem stmt_2 (kd a b c : Int) (k x y z3 z4 : Nat) (w : World) (hk1 : -9223372036854775808 ≤ kd) (hk2 : kd ≤ 9223372036854775807) (ha1 : -9223372036854775808 ≤ a) (ha2 : a ≤ 9223372036854775807) (hb1 : -9223372036854775808 ≤ b) (hb2 : b ≤ 9223372036854775807) (hc1 : -9223372036854775808 ≤ c) (hc2 : c ≤ 9223372036854775807)
    (Hk : Hid (pickI kd 24 = (k : Int))) (Hx : Hid (pickI a 4 = (x : Int))) (Hy : Hid (pickI b 12 = (y : Int))) (H3 : Hid (pickI c 3 = (z3 : Int))) (H4 : Hid (pickI c 4 = (z4 : Int))) (hk24 : k < 24) (hx4 : x < 4) (hy12 : y < 12) (hz3 : z3 < 3) (hz4 : z4 < 4) (h : ¬ k < 3 ∧ k < 5) :
    Calls Tryd.prog 19 #[.agg #[.int .i64 kd, .int .i64 a, .int .i64 b, .int .i64 c]] w fun e w' => e = .returned (.agg #[.int .i64 2, .string ⟨#[]⟩, .string ⟨#[]⟩]) ∧ Below w.heap.size w w' := by
  obtain ⟨h, h'⟩ := h
  have hns := numAt_size y
  go_enter Tryd.func19, Tryd.ntmps19
  go_wp2_with fail
  refine (picked_any a 4 _ ha1 ha2 (by omega) (by omega)).mono ?_
  rw [Hx.out]
  rintro e w1 ⟨rfl, rfl⟩
  go_wp2_with fail
  rw [key_get]
  refine (picked_any b 12 _ hb1 hb2 (by omega) (by omega)).mono ?_
  rw [Hy.out]
  rintro e w2 ⟨rfl, rfl⟩
  go_wp2_with fail
  refine (itoa_any y _ hy12).mono ?_
  rintro e w3 ⟨rfl, rfl⟩
  go_wp2_with fail
  rw [show (⟨#[118]⟩ : ByteArray) ++ numAt y = valAt y from rfl]
  have hvs := valAt_size y
  clear hns
  refine (picked_any kd 24 _ hk1 hk2 (by omega) (by omega)).mono ?_
  rw [Hk.out]
  rintro e w4 ⟨rfl, rfl⟩
  go_wp2
  refine bodyPost_ret (v := .agg #[.int .i64 2, .string ⟨#[]⟩, .string ⟨#[]⟩]) (by simp [results, Tryd.results19, go_sem]) rfl ⟨rfl, ?_⟩
  repeat' (first | exact Below.refl _ _ | assumption | with_reducible refine below_drewN ?_ _ | with_reducible refine Below.drew ?_ | with_reducible refine Below.setCell ?_ ?_ _ | with_reducible refine Below.alloc ?_ ?_ _ | (simp; done) | (simp; omega))

set_option maxHeartbeats 1000000 in
theorem stmt_3 (kd a b c : Int) (k x y z3 z4 : Nat) (w : World) (hk1 : -9223372036854775808 ≤ kd) (hk2 : kd ≤ 9223372036854775807) (ha1 : -9223372036854775808 ≤ a) (ha2 : a ≤ 9223372036854775807) (hb1 : -9223372036854775808 ≤ b) (hb2 : b ≤ 9223372036854775807) (hc1 : -9223372036854775808 ≤ c) (hc2 : c ≤ 9223372036854775807)
    (Hk : Hid (pickI kd 24 = (k : Int))) (Hx : Hid (pickI a 4 = (x : Int))) (Hy : Hid (pickI b 12 = (y : Int))) (H3 : Hid (pickI c 3 = (z3 : Int))) (H4 : Hid (pickI c 4 = (z4 : Int))) (hk24 : k < 24) (hx4 : x < 4) (hy12 : y < 12) (hz3 : z3 < 3) (hz4 : z4 < 4) (h : k = 5) :
    Calls Tryd.prog 19 #[.agg #[.int .i64 kd, .int .i64 a, .int .i64 b, .int .i64 c]] w fun e w' => e = .returned (.agg #[.int .i64 3, .string ⟨#[]⟩, .string ⟨#[]⟩]) ∧ Below w.heap.size w w' := by
  subst h
  have hns := numAt_size y
  go_enter Tryd.func19, Tryd.ntmps19
  go_wp2_with fail
  refine (picked_any a 4 _ ha1 ha2 (by omega) (by omega)).mono ?_
  rw [Hx.out]
  rintro e w1 ⟨rfl, rfl⟩
  go_wp2_with fail
  rw [key_get]
  refine (picked_any b 12 _ hb1 hb2 (by omega) (by omega)).mono ?_
  rw [Hy.out]
  rintro e w2 ⟨rfl, rfl⟩
  go_wp2_with fail
  refine (itoa_any y _ hy12).mono ?_
  rintro e w3 ⟨rfl, rfl⟩
  go_wp2_with fail
  rw [show (⟨#[118]⟩ : ByteArray) ++ numAt y = valAt y from rfl]
  have hvs := valAt_size y
  clear hns
  refine (picked_any kd 24 _ hk1 hk2 (by omega) (by omega)).mono ?_
  rw [Hk.out]
  rintro e w4 ⟨rfl, rfl⟩
  go_wp2
  refine bodyPost_ret (v := .agg #[.int .i64 3, .string ⟨#[]⟩, .string ⟨#[]⟩]) (by simp [results, Tryd.results19, go_sem]) rfl ⟨rfl, ?_⟩
  repeat' (first | exact Below.refl _ _ | assumption | with_reducible refine below_drewN ?_ _ | with_reducible refine Below.drew ?_ | with_reducible refine Below.setCell ?_ ?_ _ | with_reducible refine Below.alloc ?_ ?_ _ | (simp; done) | (simp; omega))

set_option maxHeartbeats 1000000 in
theorem stmt_4 (kd a b c : Int) (k x y z3 z4 : Nat) (w : World) (hk1 : -9223372036854775808 ≤ kd) (hk2 : kd ≤ 9223372036854775807) (ha1 : -9223372036854775808 ≤ a) (ha2 : a ≤ 9223372036854775807) (hb1 : -9223372036854775808 ≤ b) (hb2 : b ≤ 9223372036854775807) (hc1 : -9223372036854775808 ≤ c) (hc2 : c ≤ 9223372036854775807)
    (Hk : Hid (pickI kd 24 = (k : Int))) (Hx : Hid (pickI a 4 = (x : Int))) (Hy : Hid (pickI b 12 = (y : Int))) (H3 : Hid (pickI c 3 = (z3 : Int))) (H4 : Hid (pickI c 4 = (z4 : Int))) (hk24 : k < 24) (hx4 : x < 4) (hy12 : y < 12) (hz3 : z3 < 3) (hz4 : z4 < 4) (h : k = 6) :
    Calls Tryd.prog 19 #[.agg #[.int .i64 kd, .int .i64 a, .int .i64 b, .int .i64 c]] w fun e w' => e = .returned (.agg #[.int .i64 (rawK 6 z3), .string ⟨#[]⟩, .string ⟨#[]⟩]) ∧ Below w.heap.size w w' := by
  subst h
  have hg := kind_get z3
  have hns := numAt_size y
  go_enter Tryd.func19, Tryd.ntmps19
  go_wp2_with fail
  refine (picked_any a 4 _ ha1 ha2 (by omega) (by omega)).mono ?_
  rw [Hx.out]
  rintro e w1 ⟨rfl, rfl⟩
  go_wp2_with fail
  rw [key_get]
  refine (picked_any b 12 _ hb1 hb2 (by omega) (by omega)).mono ?_
  rw [Hy.out]
  rintro e w2 ⟨rfl, rfl⟩
  go_wp2_with fail
  refine (itoa_any y _ hy12).mono ?_
  rintro e w3 ⟨rfl, rfl⟩
  go_wp2_with fail
  rw [show (⟨#[118]⟩ : ByteArray) ++ numAt y = valAt y from rfl]
  have hvs := valAt_size y
  clear hns
  refine (picked_any kd 24 _ hk1 hk2 (by omega) (by omega)).mono ?_
  rw [Hk.out]
  rintro e w4 ⟨rfl, rfl⟩
  go_wp2_with fail
  refine (picked_any c 3 _ hc1 hc2 (by omega) (by omega)).mono ?_
  rw [H3.out]
  rintro e w5 ⟨rfl, rfl⟩
  go_wp2_with fail
  go_wp2
  refine bodyPost_ret (v := .agg #[.int .i64 (rawK 6 z3), .string ⟨#[]⟩, .string ⟨#[]⟩]) (by simp [results, Tryd.results19, go_sem]) rfl ⟨rfl, ?_⟩
  repeat' (first | exact Below.refl _ _ | assumption | with_reducible refine below_drewN ?_ _ | with_reducible refine Below.drew ?_ | with_reducible refine Below.setCell ?_ ?_ _ | with_reducible refine Below.alloc ?_ ?_ _ | (simp; done) | (simp; omega))

set_option maxHeartbeats 1000000 in
theorem stmt_6 (kd a b c : Int) (k x y z3 z4 : Nat) (w : World) (hk1 : -9223372036854775808 ≤ kd) (hk2 : kd ≤ 9223372036854775807) (ha1 : -9223372036854775808 ≤ a) (ha2 : a ≤ 9223372036854775807) (hb1 : -9223372036854775808 ≤ b) (hb2 : b ≤ 9223372036854775807) (hc1 : -9223372036854775808 ≤ c) (hc2 : c ≤ 9223372036854775807)
    (Hk : Hid (pickI kd 24 = (k : Int))) (Hx : Hid (pickI a 4 = (x : Int))) (Hy : Hid (pickI b 12 = (y : Int))) (H3 : Hid (pickI c 3 = (z3 : Int))) (H4 : Hid (pickI c 4 = (z4 : Int))) (hk24 : k < 24) (hx4 : x < 4) (hy12 : y < 12) (hz3 : z3 < 3) (hz4 : z4 < 4) (h : 6 < k ∧ k < 10) :
    Calls Tryd.prog 19 #[.agg #[.int .i64 kd, .int .i64 a, .int .i64 b, .int .i64 c]] w fun e w' => e = .returned (.agg #[.int .i64 6, .string (keyAt x), .string ⟨#[]⟩]) ∧ Below w.heap.size w w' := by
  obtain ⟨h, h'⟩ := h
  have n5 : ((k : Int) == 5) = false := beq_eq_false_iff_ne.2 (by omega)
  have n6 : ((k : Int) == 6) = false := beq_eq_false_iff_ne.2 (by omega)
  have hns := numAt_size y
  go_enter Tryd.func19, Tryd.ntmps19
  go_wp2_with fail
  refine (picked_any a 4 _ ha1 ha2 (by omega) (by omega)).mono ?_
  rw [Hx.out]
  rintro e w1 ⟨rfl, rfl⟩
  go_wp2_with fail
  rw [key_get]
  refine (picked_any b 12 _ hb1 hb2 (by omega) (by omega)).mono ?_
  rw [Hy.out]
  rintro e w2 ⟨rfl, rfl⟩
  go_wp2_with fail
  refine (itoa_any y _ hy12).mono ?_
  rintro e w3 ⟨rfl, rfl⟩
  go_wp2_with fail
  rw [show (⟨#[118]⟩ : ByteArray) ++ numAt y = valAt y from rfl]
  have hvs := valAt_size y
  clear hns
  refine (picked_any kd 24 _ hk1 hk2 (by omega) (by omega)).mono ?_
  rw [Hk.out]
  rintro e w4 ⟨rfl, rfl⟩
  go_wp2
  refine bodyPost_ret (v := .agg #[.int .i64 6, .string (keyAt x), .string ⟨#[]⟩]) (by simp [results, Tryd.results19, go_sem]) rfl ⟨rfl, ?_⟩
  repeat' (first | exact Below.refl _ _ | assumption | with_reducible refine below_drewN ?_ _ | with_reducible refine Below.drew ?_ | with_reducible refine Below.setCell ?_ ?_ _ | with_reducible refine Below.alloc ?_ ?_ _ | (simp; done) | (simp; omega))

set_option maxHeartbeats 1000000 in
theorem stmt_7 (kd a b c : Int) (k x y z3 z4 : Nat) (w : World) (hk1 : -9223372036854775808 ≤ kd) (hk2 : kd ≤ 9223372036854775807) (ha1 : -9223372036854775808 ≤ a) (ha2 : a ≤ 9223372036854775807) (hb1 : -9223372036854775808 ≤ b) (hb2 : b ≤ 9223372036854775807) (hc1 : -9223372036854775808 ≤ c) (hc2 : c ≤ 9223372036854775807)
    (Hk : Hid (pickI kd 24 = (k : Int))) (Hx : Hid (pickI a 4 = (x : Int))) (Hy : Hid (pickI b 12 = (y : Int))) (H3 : Hid (pickI c 3 = (z3 : Int))) (H4 : Hid (pickI c 4 = (z4 : Int))) (hk24 : k < 24) (hx4 : x < 4) (hy12 : y < 12) (hz3 : z3 < 3) (hz4 : z4 < 4) (h : ¬ k < 10 ∧ k < 13) :
    Calls Tryd.prog 19 #[.agg #[.int .i64 kd, .int .i64 a, .int .i64 b, .int .i64 c]] w fun e w' => e = .returned (.agg #[.int .i64 7, .string (keyAt x), .string ⟨#[]⟩]) ∧ Below w.heap.size w w' := by
  obtain ⟨h, h'⟩ := h
  have n5 : ((k : Int) == 5) = false := beq_eq_false_iff_ne.2 (by omega)
  have n6 : ((k : Int) == 6) = false := beq_eq_false_iff_ne.2 (by omega)
  have hns := numAt_size y
  go_enter Tryd.func19, Tryd.ntmps19
  go_wp2_with fail
  refine (picked_any a 4 _ ha1 ha2 (by omega) (by omega)).mono ?_
  rw [Hx.out]
  rintro e w1 ⟨rfl, rfl⟩
  go_wp2_with fail
  rw [key_get]
  refine (picked_any b 12 _ hb1 hb2 (by omega) (by omega)).mono ?_
  rw [Hy.out]
  rintro e w2 ⟨rfl, rfl⟩
  go_wp2_with fail
  refine (itoa_any y _ hy12).mono ?_
  rintro e w3 ⟨rfl, rfl⟩
  go_wp2_with fail
  rw [show (⟨#[118]⟩ : ByteArray) ++ numAt y = valAt y from rfl]
  have hvs := valAt_size y
  clear hns
  refine (picked_any kd 24 _ hk1 hk2 (by omega) (by omega)).mono ?_
  rw [Hk.out]
  rintro e w4 ⟨rfl, rfl⟩
  go_wp2
  refine bodyPost_ret (v := .agg #[.int .i64 7, .string (keyAt x), .string ⟨#[]⟩]) (by simp [results, Tryd.results19, go_sem]) rfl ⟨rfl, ?_⟩
  repeat' (first | exact Below.refl _ _ | assumption | with_reducible refine below_drewN ?_ _ | with_reducible refine Below.drew ?_ | with_reducible refine Below.setCell ?_ ?_ _ | with_reducible refine Below.alloc ?_ ?_ _ | (simp; done) | (simp; omega))

set_option maxHeartbeats 1000000 in
theorem stmt_8 (kd a b c : Int) (k x y z3 z4 : Nat) (w : World) (hk1 : -9223372036854775808 ≤ kd) (hk2 : kd ≤ 9223372036854775807) (ha1 : -9223372036854775808 ≤ a) (ha2 : a ≤ 9223372036854775807) (hb1 : -9223372036854775808 ≤ b) (hb2 : b ≤ 9223372036854775807) (hc1 : -9223372036854775808 ≤ c) (hc2 : c ≤ 9223372036854775807)
    (Hk : Hid (pickI kd 24 = (k : Int))) (Hx : Hid (pickI a 4 = (x : Int))) (Hy : Hid (pickI b 12 = (y : Int))) (H3 : Hid (pickI c 3 = (z3 : Int))) (H4 : Hid (pickI c 4 = (z4 : Int))) (hk24 : k < 24) (hx4 : x < 4) (hy12 : y < 12) (hz3 : z3 < 3) (hz4 : z4 < 4) (h : ¬ k < 13 ∧ k < 15) :
    Calls Tryd.prog 19 #[.agg #[.int .i64 kd, .int .i64 a, .int .i64 b, .int .i64 c]] w fun e w' => e = .returned (.agg #[.int .i64 8, .string (keyAt x), .string ⟨#[]⟩]) ∧ Below w.heap.size w w' := by
  obtain ⟨h, h'⟩ := h
  have n5 : ((k : Int) == 5) = false := beq_eq_false_iff_ne.2 (by omega)
  have n6 : ((k : Int) == 6) = false := beq_eq_false_iff_ne.2 (by omega)
  have hns := numAt_size y
  go_enter Tryd.func19, Tryd.ntmps19
  go_wp2_with fail
  refine (picked_any a 4 _ ha1 ha2 (by omega) (by omega)).mono ?_
  rw [Hx.out]
  rintro e w1 ⟨rfl, rfl⟩
  go_wp2_with fail
  rw [key_get]
  refine (picked_any b 12 _ hb1 hb2 (by omega) (by omega)).mono ?_
  rw [Hy.out]
  rintro e w2 ⟨rfl, rfl⟩
  go_wp2_with fail
  refine (itoa_any y _ hy12).mono ?_
  rintro e w3 ⟨rfl, rfl⟩
  go_wp2_with fail
  rw [show (⟨#[118]⟩ : ByteArray) ++ numAt y = valAt y from rfl]
  have hvs := valAt_size y
  clear hns
  refine (picked_any kd 24 _ hk1 hk2 (by omega) (by omega)).mono ?_
  rw [Hk.out]
  rintro e w4 ⟨rfl, rfl⟩
  go_wp2
  refine bodyPost_ret (v := .agg #[.int .i64 8, .string (keyAt x), .string ⟨#[]⟩]) (by simp [results, Tryd.results19, go_sem]) rfl ⟨rfl, ?_⟩
  repeat' (first | exact Below.refl _ _ | assumption | with_reducible refine below_drewN ?_ _ | with_reducible refine Below.drew ?_ | with_reducible refine Below.setCell ?_ ?_ _ | with_reducible refine Below.alloc ?_ ?_ _ | (simp; done) | (simp; omega))

set_option maxHeartbeats 1000000 in
theorem stmt_9 (kd a b c : Int) (k x y z3 z4 : Nat) (w : World) (hk1 : -9223372036854775808 ≤ kd) (hk2 : kd ≤ 9223372036854775807) (ha1 : -9223372036854775808 ≤ a) (ha2 : a ≤ 9223372036854775807) (hb1 : -9223372036854775808 ≤ b) (hb2 : b ≤ 9223372036854775807) (hc1 : -9223372036854775808 ≤ c) (hc2 : c ≤ 9223372036854775807)
    (Hk : Hid (pickI kd 24 = (k : Int))) (Hx : Hid (pickI a 4 = (x : Int))) (Hy : Hid (pickI b 12 = (y : Int))) (H3 : Hid (pickI c 3 = (z3 : Int))) (H4 : Hid (pickI c 4 = (z4 : Int))) (hk24 : k < 24) (hx4 : x < 4) (hy12 : y < 12) (hz3 : z3 < 3) (hz4 : z4 < 4) (h : ¬ k < 15 ∧ k < 18) :
    Calls Tryd.prog 19 #[.agg #[.int .i64 kd, .int .i64 a, .int .i64 b, .int .i64 c]] w fun e w' => e = .returned (.agg #[.int .i64 9, .string (keyAt x), .string (valAt y)]) ∧ Below w.heap.size w w' := by
  obtain ⟨h, h'⟩ := h
  have n5 : ((k : Int) == 5) = false := beq_eq_false_iff_ne.2 (by omega)
  have n6 : ((k : Int) == 6) = false := beq_eq_false_iff_ne.2 (by omega)
  have hns := numAt_size y
  go_enter Tryd.func19, Tryd.ntmps19
  go_wp2_with fail
  refine (picked_any a 4 _ ha1 ha2 (by omega) (by omega)).mono ?_
  rw [Hx.out]
  rintro e w1 ⟨rfl, rfl⟩
  go_wp2_with fail
  rw [key_get]
  refine (picked_any b 12 _ hb1 hb2 (by omega) (by omega)).mono ?_
  rw [Hy.out]
  rintro e w2 ⟨rfl, rfl⟩
  go_wp2_with fail
  refine (itoa_any y _ hy12).mono ?_
  rintro e w3 ⟨rfl, rfl⟩
  go_wp2_with fail
  rw [show (⟨#[118]⟩ : ByteArray) ++ numAt y = valAt y from rfl]
  have hvs := valAt_size y
  clear hns
  refine (picked_any kd 24 _ hk1 hk2 (by omega) (by omega)).mono ?_
  rw [Hk.out]
  rintro e w4 ⟨rfl, rfl⟩
  go_wp2
  refine bodyPost_ret (v := .agg #[.int .i64 9, .string (keyAt x), .string (valAt y)]) (by simp [results, Tryd.results19, go_sem]) rfl ⟨rfl, ?_⟩
  repeat' (first | exact Below.refl _ _ | assumption | with_reducible refine below_drewN ?_ _ | with_reducible refine Below.drew ?_ | with_reducible refine Below.setCell ?_ ?_ _ | with_reducible refine Below.alloc ?_ ?_ _ | (simp; done) | (simp; omega))

set_option maxHeartbeats 1000000 in
theorem stmt_10 (kd a b c : Int) (k x y z3 z4 : Nat) (w : World) (hk1 : -9223372036854775808 ≤ kd) (hk2 : kd ≤ 9223372036854775807) (ha1 : -9223372036854775808 ≤ a) (ha2 : a ≤ 9223372036854775807) (hb1 : -9223372036854775808 ≤ b) (hb2 : b ≤ 9223372036854775807) (hc1 : -9223372036854775808 ≤ c) (hc2 : c ≤ 9223372036854775807)
    (Hk : Hid (pickI kd 24 = (k : Int))) (Hx : Hid (pickI a 4 = (x : Int))) (Hy : Hid (pickI b 12 = (y : Int))) (H3 : Hid (pickI c 3 = (z3 : Int))) (H4 : Hid (pickI c 4 = (z4 : Int))) (hk24 : k < 24) (hx4 : x < 4) (hy12 : y < 12) (hz3 : z3 < 3) (hz4 : z4 < 4) (h : ¬ k < 18 ∧ k < 22) :
    Calls Tryd.prog 19 #[.agg #[.int .i64 kd, .int .i64 a, .int .i64 b, .int .i64 c]] w fun e w' => e = .returned (.agg #[.int .i64 10, .string (keyAt x), .string (valAt y)]) ∧ Below w.heap.size w w' := by
  obtain ⟨h, h'⟩ := h
  have n5 : ((k : Int) == 5) = false := beq_eq_false_iff_ne.2 (by omega)
  have n6 : ((k : Int) == 6) = false := beq_eq_false_iff_ne.2 (by omega)
  have hns := numAt_size y
  go_enter Tryd.func19, Tryd.ntmps19
  go_wp2_with fail
  refine (picked_any a 4 _ ha1 ha2 (by omega) (by omega)).mono ?_
  rw [Hx.out]
  rintro e w1 ⟨rfl, rfl⟩
  go_wp2_with fail
  rw [key_get]
  refine (picked_any b 12 _ hb1 hb2 (by omega) (by omega)).mono ?_
  rw [Hy.out]
  rintro e w2 ⟨rfl, rfl⟩
  go_wp2_with fail
  refine (itoa_any y _ hy12).mono ?_
  rintro e w3 ⟨rfl, rfl⟩
  go_wp2_with fail
  rw [show (⟨#[118]⟩ : ByteArray) ++ numAt y = valAt y from rfl]
  have hvs := valAt_size y
  clear hns
  refine (picked_any kd 24 _ hk1 hk2 (by omega) (by omega)).mono ?_
  rw [Hk.out]
  rintro e w4 ⟨rfl, rfl⟩
  go_wp2
  refine bodyPost_ret (v := .agg #[.int .i64 10, .string (keyAt x), .string (valAt y)]) (by simp [results, Tryd.results19, go_sem]) rfl ⟨rfl, ?_⟩
  repeat' (first | exact Below.refl _ _ | assumption | with_reducible refine below_drewN ?_ _ | with_reducible refine Below.drew ?_ | with_reducible refine Below.setCell ?_ ?_ _ | with_reducible refine Below.alloc ?_ ?_ _ | (simp; done) | (simp; omega))

set_option maxHeartbeats 1000000 in
theorem stmt_11 (kd a b c : Int) (k x y z3 z4 : Nat) (w : World) (hk1 : -9223372036854775808 ≤ kd) (hk2 : kd ≤ 9223372036854775807) (ha1 : -9223372036854775808 ≤ a) (ha2 : a ≤ 9223372036854775807) (hb1 : -9223372036854775808 ≤ b) (hb2 : b ≤ 9223372036854775807) (hc1 : -9223372036854775808 ≤ c) (hc2 : c ≤ 9223372036854775807)
    (Hk : Hid (pickI kd 24 = (k : Int))) (Hx : Hid (pickI a 4 = (x : Int))) (Hy : Hid (pickI b 12 = (y : Int))) (H3 : Hid (pickI c 3 = (z3 : Int))) (H4 : Hid (pickI c 4 = (z4 : Int))) (hk24 : k < 24) (hx4 : x < 4) (hy12 : y < 12) (hz3 : z3 < 3) (hz4 : z4 < 4) (h : ¬ k < 22) :
    Calls Tryd.prog 19 #[.agg #[.int .i64 kd, .int .i64 a, .int .i64 b, .int .i64 c]] w fun e w' => e = .returned (.agg #[.int .i64 11, .string (keyAt x), .string (prepAt z4 y)]) ∧ Below w.heap.size w w' := by
  have n5 : ((k : Int) == 5) = false := beq_eq_false_iff_ne.2 (by omega)
  have n6 : ((k : Int) == 6) = false := beq_eq_false_iff_ne.2 (by omega)
  have hg := prep_get y z4
  have hns := numAt_size y
  go_enter Tryd.func19, Tryd.ntmps19
  go_wp2_with fail
  refine (picked_any a 4 _ ha1 ha2 (by omega) (by omega)).mono ?_
  rw [Hx.out]
  rintro e w1 ⟨rfl, rfl⟩
  go_wp2_with fail
  rw [key_get]
  refine (picked_any b 12 _ hb1 hb2 (by omega) (by omega)).mono ?_
  rw [Hy.out]
  rintro e w2 ⟨rfl, rfl⟩
  go_wp2_with fail
  refine (itoa_any y _ hy12).mono ?_
  rintro e w3 ⟨rfl, rfl⟩
  go_wp2_with fail
  rw [show (⟨#[118]⟩ : ByteArray) ++ numAt y = valAt y from rfl]
  have hvs := valAt_size y
  clear hns
  refine (picked_any kd 24 _ hk1 hk2 (by omega) (by omega)).mono ?_
  rw [Hk.out]
  rintro e w4 ⟨rfl, rfl⟩
  go_wp2_with fail
  refine (picked_any c 4 _ hc1 hc2 (by omega) (by omega)).mono ?_
  rw [H4.out]
  rintro e w5 ⟨rfl, rfl⟩
  go_wp2
  refine bodyPost_ret (v := .agg #[.int .i64 11, .string (keyAt x), .string (prepAt z4 y)]) (by simp [results, Tryd.results19, go_sem]) rfl ⟨rfl, ?_⟩
  repeat' (first | exact Below.refl _ _ | assumption | with_reducible refine below_drewN ?_ _ | with_reducible refine Below.drew ?_ | with_reducible refine Below.setCell ?_ ?_ _ | with_reducible refine Below.alloc ?_ ?_ _ | (simp; done) | (simp; omega))

theorem stmt_any (kd a b c : Int) (w : World) (hk : (Lit.int .i64 kd).wf = true) (ha : (Lit.int .i64 a).wf = true) (hb : (Lit.int .i64 b).wf = true) (hc : (Lit.int .i64 c).wf = true) :
    Calls Tryd.prog 19 #[.agg #[.int .i64 kd, .int .i64 a, .int .i64 b, .int .i64 c]] w fun e w' =>
      e = .returned (.agg #[.int .i64 (rawK (pickI kd 24).toNat (pickI c 3).toNat), .string (rawKey (pickI kd 24).toNat (pickI a 4).toNat), .string (rawVal (pickI kd 24).toNat (pickI b 12).toNat (pickI c 4).toNat)]) ∧ Below w.heap.size w w' := by
  obtain ⟨hk1, hk2⟩ := i64_bd hk
  obtain ⟨ha1, ha2⟩ := i64_bd ha
  obtain ⟨hb1, hb2⟩ := i64_bd hb
  obtain ⟨hc1, hc2⟩ := i64_bd hc
  obtain ⟨k, Hk, hk24⟩ := pick_some kd 24 (by omega)
  obtain ⟨x, Hx, hx4⟩ := pick_some a 4 (by omega)
  obtain ⟨y, Hy, hy12⟩ := pick_some b 12 (by omega)
  obtain ⟨z3, H3, hz3⟩ := pick_some c 3 (by omega)
  obtain ⟨z4, H4, hz4⟩ := pick_some c 4 (by omega)
  rw [show pickI kd 24 = (k : Int) from Hk, show pickI a 4 = (x : Int) from Hx, show pickI b 12 = (y : Int) from Hy, show pickI c 3 = (z3 : Int) from H3, show pickI c 4 = (z4 : Int) from H4]
  simp only [Int.toNat_natCast]
  have hcase : k < 3 ∨ (¬ k < 3 ∧ k < 5) ∨ k = 5 ∨ k = 6 ∨ (6 < k ∧ k < 10) ∨ (¬ k < 10 ∧ k < 13) ∨ (¬ k < 13 ∧ k < 15) ∨ (¬ k < 15 ∧ k < 18) ∨ (¬ k < 18 ∧ k < 22) ∨ ¬ k < 22 := by omega
  rcases hcase with h | h | h | h | h | h | h | h | h | h
  · have e1 : rawK k z3 = 1 := by unfold rawK; rw [if_pos h]
    have e2 : rawKey k x = ⟨#[]⟩ := by unfold rawKey; rw [if_pos (by omega)]
    have e3 : rawVal k y z4 = ⟨#[]⟩ := by unfold rawVal; rw [if_pos (by omega)]
    rw [e1, e2, e3]
    exact stmt_1 kd a b c k x y z3 z4 w hk1 hk2 ha1 ha2 hb1 hb2 hc1 hc2 Hk Hx Hy H3 H4 hk24 hx4 hy12 hz3 hz4 h
  · have e1 : rawK k z3 = 2 := by unfold rawK; rw [if_neg h.1, if_pos h.2]
    have e2 : rawKey k x = ⟨#[]⟩ := by unfold rawKey; rw [if_pos (by omega)]
    have e3 : rawVal k y z4 = ⟨#[]⟩ := by unfold rawVal; rw [if_pos (by omega)]
    rw [e1, e2, e3]
    exact stmt_2 kd a b c k x y z3 z4 w hk1 hk2 ha1 ha2 hb1 hb2 hc1 hc2 Hk Hx Hy H3 H4 hk24 hx4 hy12 hz3 hz4 h
  · subst h
    exact stmt_3 kd a b c 5 x y z3 z4 w hk1 hk2 ha1 ha2 hb1 hb2 hc1 hc2 Hk Hx Hy H3 H4 hk24 hx4 hy12 hz3 hz4 rfl
  · subst h
    exact stmt_4 kd a b c 6 x y z3 z4 w hk1 hk2 ha1 ha2 hb1 hb2 hc1 hc2 Hk Hx Hy H3 H4 hk24 hx4 hy12 hz3 hz4 rfl
  · have e1 : rawK k z3 = 6 := by unfold rawK; rw [if_neg (by omega), if_neg (by omega), if_neg (by omega), if_neg (by omega), if_pos h.2]
    have e2 : rawKey k x = keyAt x := by unfold rawKey; rw [if_neg (by omega)]
    have e3 : rawVal k y z4 = ⟨#[]⟩ := by unfold rawVal; rw [if_pos (by omega)]
    rw [e1, e2, e3]
    exact stmt_6 kd a b c k x y z3 z4 w hk1 hk2 ha1 ha2 hb1 hb2 hc1 hc2 Hk Hx Hy H3 H4 hk24 hx4 hy12 hz3 hz4 h
  · have e1 : rawK k z3 = 7 := by unfold rawK; rw [if_neg (by omega), if_neg (by omega), if_neg (by omega), if_neg (by omega), if_neg h.1, if_pos h.2]
    have e2 : rawKey k x = keyAt x := by unfold rawKey; rw [if_neg (by omega)]
    have e3 : rawVal k y z4 = ⟨#[]⟩ := by unfold rawVal; rw [if_pos (by omega)]
    rw [e1, e2, e3]
    exact stmt_7 kd a b c k x y z3 z4 w hk1 hk2 ha1 ha2 hb1 hb2 hc1 hc2 Hk Hx Hy H3 H4 hk24 hx4 hy12 hz3 hz4 h
  · have e1 : rawK k z3 = 8 := by unfold rawK; rw [if_neg (by omega), if_neg (by omega), if_neg (by omega), if_neg (by omega), if_neg (by omega), if_neg h.1, if_pos h.2]
    have e2 : rawKey k x = keyAt x := by unfold rawKey; rw [if_neg (by omega)]
    have e3 : rawVal k y z4 = ⟨#[]⟩ := by unfold rawVal; rw [if_pos (by omega)]
    rw [e1, e2, e3]
    exact stmt_8 kd a b c k x y z3 z4 w hk1 hk2 ha1 ha2 hb1 hb2 hc1 hc2 Hk Hx Hy H3 H4 hk24 hx4 hy12 hz3 hz4 h
  · have e1 : rawK k z3 = 9 := by unfold rawK; rw [if_neg (by omega), if_neg (by omega), if_neg (by omega), if_neg (by omega), if_neg (by omega), if_neg (by omega), if_neg h.1, if_pos h.2]
    have e2 : rawKey k x = keyAt x := by unfold rawKey; rw [if_neg (by omega)]
    have e3 : rawVal k y z4 = valAt y := by unfold rawVal; rw [if_neg (by omega), if_pos (by omega)]
    rw [e1, e2, e3]
    exact stmt_9 kd a b c k x y z3 z4 w hk1 hk2 ha1 ha2 hb1 hb2 hc1 hc2 Hk Hx Hy H3 H4 hk24 hx4 hy12 hz3 hz4 h
  · have e1 : rawK k z3 = 10 := by unfold rawK; rw [if_neg (by omega), if_neg (by omega), if_neg (by omega), if_neg (by omega), if_neg (by omega), if_neg (by omega), if_neg (by omega), if_neg h.1, if_pos h.2]
    have e2 : rawKey k x = keyAt x := by unfold rawKey; rw [if_neg (by omega)]
    have e3 : rawVal k y z4 = valAt y := by unfold rawVal; rw [if_neg (by omega), if_pos (by omega)]
    rw [e1, e2, e3]
    exact stmt_10 kd a b c k x y z3 z4 w hk1 hk2 ha1 ha2 hb1 hb2 hc1 hc2 Hk Hx Hy H3 H4 hk24 hx4 hy12 hz3 hz4 h
  · have e1 : rawK k z3 = 11 := by unfold rawK; rw [if_neg (by omega), if_neg (by omega), if_neg (by omega), if_neg (by omega), if_neg (by omega), if_neg (by omega), if_neg (by omega), if_neg (by omega), if_neg h]
    have e2 : rawKey k x = keyAt x := by unfold rawKey; rw [if_neg (by omega)]
    have e3 : rawVal k y z4 = prepAt z4 y := by unfold rawVal; rw [if_neg (by omega), if_neg h]
    rw [e1, e2, e3]
    exact stmt_11 kd a b c k x y z3 z4 w hk1 hk2 ha1 ha2 hb1 hb2 hc1 hc2 Hk Hx Hy H3 H4 hk24 hx4 hy12 hz3 hz4 h

end Go.Proofs.YtpbaobmegomfpaaDoor
