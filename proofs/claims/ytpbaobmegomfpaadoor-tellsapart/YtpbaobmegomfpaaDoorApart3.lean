/-
  The walk of the law TellsApart, some cases.
-/
import Derived.Test.YtpbaobmegomfpaaDoorApart0
namespace Go.Proofs.YtpbaobmegomfpaaDoor
open Go.RowKit
set_option linter.unusedVariables false
set_option maxRecDepth 100000

set_option maxHeartbeats 2000000 in
theorem apart_01 (k l : Int) (s t : ByteArray) (i j : Int) (a b c d : Nat) (hk1 : -9223372036854775808 ≤ k) (hk2 : k ≤ 9223372036854775807) (hl1 : -9223372036854775808 ≤ l) (hl2 : l ≤ 9223372036854775807) (hi1 : -9223372036854775808 ≤ i) (hi2 : i ≤ 9223372036854775807) (hj1 : -9223372036854775808 ≤ j) (hj2 : j ≤ 9223372036854775807)
    (hs : s.size ≤ maxLen) (ht : t.size ≤ maxLen) (w : World) (hL : Leads w) (Ha : Hid (pickI k 4 = (a : Int))) (Hb : Hid (pickI l 4 = (b : Int))) (Hc : Hid (pickI i 3 = (c : Int))) (Hd : Hid (pickI j 3 = (d : Int)))
    (ha4 : a < 4) (hb4 : b < 4) (hc3 : c < 3) (hd3 : d < 3) (hA : ¬ (a = 1 ∨ a = 3)) (hB : b = 1 ∧ t.size ≤ 20) :
    Calls Tryd.prog 9 #[.int .i64 k, .int .i64 l, .string s, .string t, .int .i64 i, .int .i64 j] w fun e w' => e = .returned (.bool true) ∧ Below w.heap.size w w' := by
  unfold maxLen at hs ht
  have HL := Lib.hid hL
  clear hL
  have na2 : ((1 : Int) + (a : Int) == 2) = false := beq_eq_false_iff_ne.2 (by omega)
  have na4 : ((1 : Int) + (a : Int) == 4) = false := beq_eq_false_iff_ne.2 (by omega)
  have Xa := Lib.hid (show txt (1 + a) s = ⟨#[]⟩ by unfold txt; rw [if_neg (by omega)])
  have HNa := Lib.hid hA
  clear hA
  obtain ⟨rfl, hmb⟩ := hB
  have Xb := Lib.hid (show txt 2 t = _ from cutX_short hmb)
  go_enter Tryd.func9, Tryd.ntmps9
  go_wp2_with fail
  refine (picked_any k 4 _ hk1 hk2 (by omega) (by omega)).mono ?_
  rw [Ha.out]
  rintro e w1 ⟨rfl, rfl⟩
  go_wp2_with fail
  refine (picked_any i 3 _ hi1 hi2 (by omega) (by omega)).mono ?_
  rw [Hc.out]
  rintro e w2 ⟨rfl, rfl⟩
  go_wp2_with fail
  refine (picked_any l 4 _ hl1 hl2 (by omega) (by omega)).mono ?_
  rw [Hb.out]
  rintro e w3 ⟨rfl, rfl⟩
  go_wp2_with fail
  refine (picked_any j 3 _ hj1 hj2 (by omega) (by omega)).mono ?_
  rw [Hd.out]
  rintro e w4 ⟨rfl, rfl⟩
  go_wp2_with fail
  rw [← Xb.out]
  refine (tell_okI ((1 : Int) + (a : Int)) (c : Int) (⟨#[]⟩) _ ((HL.out.alloc _).alloc _) (by omega) (by have := txt_good (1 + a) s; rw [Xa.out] at this; simpa using this)).mono ?_
  generalize hT1 : tellT (Int.toNat ((1 : Int) + (a : Int))) (Int.toNat (c : Int)) (⟨#[]⟩) = T1
  have H1 := Lib.hid hT1
  clear hT1
  rintro e w5 ⟨rfl, hb5⟩
  have hz := two_ans w w5 _ _ _ hb5
  have a0 := hz.1 0
  have a1 := hz.1 1
  have a2 := hz.1 2
  have b0 := hz.2 0
  have b1 := hz.2 1
  have b2 := hz.2 2
  simp only [List.getElem?_toArray, List.getElem?_cons_zero, List.getElem?_cons_succ] at a0 a1 a2 b0 b1 b2
  have HZ := Lib.hid hz
  clear hz
  go_wp2_with fail
  refine (tell_okI (2 : Int) (d : Int) (txt 2 t) _ (((HL.out.alloc _).alloc _).below hb5) (by omega) (txt_good 2 t)).mono ?_
  generalize hT2 : tellT (Int.toNat (2 : Int)) (Int.toNat (d : Int)) (txt 2 t) = T2
  have H2 := Lib.hid hT2
  clear hT2
  rintro e w6 ⟨rfl, hb6⟩
  have l5 : w.heap.size + 1 < w5.heap.size := by have := hb5.size; simp at this; omega
  have a3 := (hb6.cell (p := ⟨w.heap.size, 0, none⟩) (by simp; omega)).trans a0
  have a4 := (hb6.cell (p := ⟨w.heap.size, 1, none⟩) (by simp; omega)).trans a1
  have a5 := (hb6.cell (p := ⟨w.heap.size, 2, none⟩) (by simp; omega)).trans a2
  have b3 := (hb6.cell (p := ⟨w.heap.size + 1, 0, none⟩) (by simp; omega)).trans b0
  have b4 := (hb6.cell (p := ⟨w.heap.size + 1, 1, none⟩) (by simp; omega)).trans b1
  have b5 := (hb6.cell (p := ⟨w.heap.size + 1, 2, none⟩) (by simp; omega)).trans b2
  clear a0 a1 a2 b0 b1 b2
  have HE := Lib.hid (tell_eqI ((1 : Int) + (a : Int)) (2 : Int) (c : Int) (d : Int) (⟨#[]⟩) (txt 2 t) (by omega) (by omega) (by omega) (by omega) (by omega) (by omega) (by omega) (by omega))
  rw [H1.out, H2.out] at HE
  have bel : Below w.heap.size w w6 := (((((Below.refl _ _).alloc (Nat.le_refl _) _).alloc (by simp) _).trans (hb5.mono (by simp; omega)))).trans (hb6.mono (by omega))
  clear hb5 hb6
  have e1 : (((1 : Int) + (a : Int)) == (2 : Int)) = false := beq_eq_false_iff_ne.2 (by have := HNa.out; omega)
  have hE : (T1.toList == T2.toList) = false := by rw [HE.out, e1, Bool.false_and]
  clear HE
  go_wp2
  go_ret
  exact ⟨rfl, bel⟩

set_option maxHeartbeats 2000000 in
theorem apart_02 (k l : Int) (s t : ByteArray) (i j : Int) (a b c d : Nat) (hk1 : -9223372036854775808 ≤ k) (hk2 : k ≤ 9223372036854775807) (hl1 : -9223372036854775808 ≤ l) (hl2 : l ≤ 9223372036854775807) (hi1 : -9223372036854775808 ≤ i) (hi2 : i ≤ 9223372036854775807) (hj1 : -9223372036854775808 ≤ j) (hj2 : j ≤ 9223372036854775807)
    (hs : s.size ≤ maxLen) (ht : t.size ≤ maxLen) (w : World) (hL : Leads w) (Ha : Hid (pickI k 4 = (a : Int))) (Hb : Hid (pickI l 4 = (b : Int))) (Hc : Hid (pickI i 3 = (c : Int))) (Hd : Hid (pickI j 3 = (d : Int)))
    (ha4 : a < 4) (hb4 : b < 4) (hc3 : c < 3) (hd3 : d < 3) (hA : ¬ (a = 1 ∨ a = 3)) (hB : b = 1 ∧ ¬ t.size ≤ 20) :
    Calls Tryd.prog 9 #[.int .i64 k, .int .i64 l, .string s, .string t, .int .i64 i, .int .i64 j] w fun e w' => e = .returned (.bool true) ∧ Below w.heap.size w w' := by
  unfold maxLen at hs ht
  have HL := Lib.hid hL
  clear hL
  have na2 : ((1 : Int) + (a : Int) == 2) = false := beq_eq_false_iff_ne.2 (by omega)
  have na4 : ((1 : Int) + (a : Int) == 4) = false := beq_eq_false_iff_ne.2 (by omega)
  have Xa := Lib.hid (show txt (1 + a) s = ⟨#[]⟩ by unfold txt; rw [if_neg (by omega)])
  have HNa := Lib.hid hA
  clear hA
  obtain ⟨rfl, hmb⟩ := hB
  have Xb := Lib.hid (show txt 2 t = _ from cutX_long hmb)
  go_enter Tryd.func9, Tryd.ntmps9
  go_wp2_with fail
  refine (picked_any k 4 _ hk1 hk2 (by omega) (by omega)).mono ?_
  rw [Ha.out]
  rintro e w1 ⟨rfl, rfl⟩
  go_wp2_with fail
  refine (picked_any i 3 _ hi1 hi2 (by omega) (by omega)).mono ?_
  rw [Hc.out]
  rintro e w2 ⟨rfl, rfl⟩
  go_wp2_with fail
  refine (picked_any l 4 _ hl1 hl2 (by omega) (by omega)).mono ?_
  rw [Hb.out]
  rintro e w3 ⟨rfl, rfl⟩
  go_wp2_with fail
  refine (picked_any j 3 _ hj1 hj2 (by omega) (by omega)).mono ?_
  rw [Hd.out]
  rintro e w4 ⟨rfl, rfl⟩
  go_wp2_with fail
  rw [← Xb.out]
  refine (tell_okI ((1 : Int) + (a : Int)) (c : Int) (⟨#[]⟩) _ ((HL.out.alloc _).alloc _) (by omega) (by have := txt_good (1 + a) s; rw [Xa.out] at this; simpa using this)).mono ?_
  generalize hT1 : tellT (Int.toNat ((1 : Int) + (a : Int))) (Int.toNat (c : Int)) (⟨#[]⟩) = T1
  have H1 := Lib.hid hT1
  clear hT1
  rintro e w5 ⟨rfl, hb5⟩
  have hz := two_ans w w5 _ _ _ hb5
  have a0 := hz.1 0
  have a1 := hz.1 1
  have a2 := hz.1 2
  have b0 := hz.2 0
  have b1 := hz.2 1
  have b2 := hz.2 2
  simp only [List.getElem?_toArray, List.getElem?_cons_zero, List.getElem?_cons_succ] at a0 a1 a2 b0 b1 b2
  have HZ := Lib.hid hz
  clear hz
  go_wp2_with fail
  refine (tell_okI (2 : Int) (d : Int) (txt 2 t) _ (((HL.out.alloc _).alloc _).below hb5) (by omega) (txt_good 2 t)).mono ?_
  generalize hT2 : tellT (Int.toNat (2 : Int)) (Int.toNat (d : Int)) (txt 2 t) = T2
  have H2 := Lib.hid hT2
  clear hT2
  rintro e w6 ⟨rfl, hb6⟩
  have l5 : w.heap.size + 1 < w5.heap.size := by have := hb5.size; simp at this; omega
  have a3 := (hb6.cell (p := ⟨w.heap.size, 0, none⟩) (by simp; omega)).trans a0
  have a4 := (hb6.cell (p := ⟨w.heap.size, 1, none⟩) (by simp; omega)).trans a1
  have a5 := (hb6.cell (p := ⟨w.heap.size, 2, none⟩) (by simp; omega)).trans a2
  have b3 := (hb6.cell (p := ⟨w.heap.size + 1, 0, none⟩) (by simp; omega)).trans b0
  have b4 := (hb6.cell (p := ⟨w.heap.size + 1, 1, none⟩) (by simp; omega)).trans b1
  have b5 := (hb6.cell (p := ⟨w.heap.size + 1, 2, none⟩) (by simp; omega)).trans b2
  clear a0 a1 a2 b0 b1 b2
  have HE := Lib.hid (tell_eqI ((1 : Int) + (a : Int)) (2 : Int) (c : Int) (d : Int) (⟨#[]⟩) (txt 2 t) (by omega) (by omega) (by omega) (by omega) (by omega) (by omega) (by omega) (by omega))
  rw [H1.out, H2.out] at HE
  have bel : Below w.heap.size w w6 := (((((Below.refl _ _).alloc (Nat.le_refl _) _).alloc (by simp) _).trans (hb5.mono (by simp; omega)))).trans (hb6.mono (by omega))
  clear hb5 hb6
  have e1 : (((1 : Int) + (a : Int)) == (2 : Int)) = false := beq_eq_false_iff_ne.2 (by have := HNa.out; omega)
  have hE : (T1.toList == T2.toList) = false := by rw [HE.out, e1, Bool.false_and]
  clear HE
  go_wp2
  go_ret
  exact ⟨rfl, bel⟩

set_option maxHeartbeats 2000000 in
theorem apart_03 (k l : Int) (s t : ByteArray) (i j : Int) (a b c d : Nat) (hk1 : -9223372036854775808 ≤ k) (hk2 : k ≤ 9223372036854775807) (hl1 : -9223372036854775808 ≤ l) (hl2 : l ≤ 9223372036854775807) (hi1 : -9223372036854775808 ≤ i) (hi2 : i ≤ 9223372036854775807) (hj1 : -9223372036854775808 ≤ j) (hj2 : j ≤ 9223372036854775807)
    (hs : s.size ≤ maxLen) (ht : t.size ≤ maxLen) (w : World) (hL : Leads w) (Ha : Hid (pickI k 4 = (a : Int))) (Hb : Hid (pickI l 4 = (b : Int))) (Hc : Hid (pickI i 3 = (c : Int))) (Hd : Hid (pickI j 3 = (d : Int)))
    (ha4 : a < 4) (hb4 : b < 4) (hc3 : c < 3) (hd3 : d < 3) (hA : ¬ (a = 1 ∨ a = 3)) (hB : b = 3 ∧ t.size ≤ 20) :
    Calls Tryd.prog 9 #[.int .i64 k, .int .i64 l, .string s, .string t, .int .i64 i, .int .i64 j] w fun e w' => e = .returned (.bool true) ∧ Below w.heap.size w w' := by
  unfold maxLen at hs ht
  have HL := Lib.hid hL
  clear hL
  have na2 : ((1 : Int) + (a : Int) == 2) = false := beq_eq_false_iff_ne.2 (by omega)
  have na4 : ((1 : Int) + (a : Int) == 4) = false := beq_eq_false_iff_ne.2 (by omega)
  have Xa := Lib.hid (show txt (1 + a) s = ⟨#[]⟩ by unfold txt; rw [if_neg (by omega)])
  have HNa := Lib.hid hA
  clear hA
  obtain ⟨rfl, hmb⟩ := hB
  have Xb := Lib.hid (show txt 4 t = _ from cutX_short hmb)
  go_enter Tryd.func9, Tryd.ntmps9
  go_wp2_with fail
  refine (picked_any k 4 _ hk1 hk2 (by omega) (by omega)).mono ?_
  rw [Ha.out]
  rintro e w1 ⟨rfl, rfl⟩
  go_wp2_with fail
  refine (picked_any i 3 _ hi1 hi2 (by omega) (by omega)).mono ?_
  rw [Hc.out]
  rintro e w2 ⟨rfl, rfl⟩
  go_wp2_with fail
  refine (picked_any l 4 _ hl1 hl2 (by omega) (by omega)).mono ?_
  rw [Hb.out]
  rintro e w3 ⟨rfl, rfl⟩
  go_wp2_with fail
  refine (picked_any j 3 _ hj1 hj2 (by omega) (by omega)).mono ?_
  rw [Hd.out]
  rintro e w4 ⟨rfl, rfl⟩
  go_wp2_with fail
  rw [← Xb.out]
  refine (tell_okI ((1 : Int) + (a : Int)) (c : Int) (⟨#[]⟩) _ ((HL.out.alloc _).alloc _) (by omega) (by have := txt_good (1 + a) s; rw [Xa.out] at this; simpa using this)).mono ?_
  generalize hT1 : tellT (Int.toNat ((1 : Int) + (a : Int))) (Int.toNat (c : Int)) (⟨#[]⟩) = T1
  have H1 := Lib.hid hT1
  clear hT1
  rintro e w5 ⟨rfl, hb5⟩
  have hz := two_ans w w5 _ _ _ hb5
  have a0 := hz.1 0
  have a1 := hz.1 1
  have a2 := hz.1 2
  have b0 := hz.2 0
  have b1 := hz.2 1
  have b2 := hz.2 2
  simp only [List.getElem?_toArray, List.getElem?_cons_zero, List.getElem?_cons_succ] at a0 a1 a2 b0 b1 b2
  have HZ := Lib.hid hz
  clear hz
  go_wp2_with fail
  refine (tell_okI (4 : Int) (d : Int) (txt 4 t) _ (((HL.out.alloc _).alloc _).below hb5) (by omega) (txt_good 4 t)).mono ?_
  generalize hT2 : tellT (Int.toNat (4 : Int)) (Int.toNat (d : Int)) (txt 4 t) = T2
  have H2 := Lib.hid hT2
  clear hT2
  rintro e w6 ⟨rfl, hb6⟩
  have l5 : w.heap.size + 1 < w5.heap.size := by have := hb5.size; simp at this; omega
  have a3 := (hb6.cell (p := ⟨w.heap.size, 0, none⟩) (by simp; omega)).trans a0
  have a4 := (hb6.cell (p := ⟨w.heap.size, 1, none⟩) (by simp; omega)).trans a1
  have a5 := (hb6.cell (p := ⟨w.heap.size, 2, none⟩) (by simp; omega)).trans a2
  have b3 := (hb6.cell (p := ⟨w.heap.size + 1, 0, none⟩) (by simp; omega)).trans b0
  have b4 := (hb6.cell (p := ⟨w.heap.size + 1, 1, none⟩) (by simp; omega)).trans b1
  have b5 := (hb6.cell (p := ⟨w.heap.size + 1, 2, none⟩) (by simp; omega)).trans b2
  clear a0 a1 a2 b0 b1 b2
  have HE := Lib.hid (tell_eqI ((1 : Int) + (a : Int)) (4 : Int) (c : Int) (d : Int) (⟨#[]⟩) (txt 4 t) (by omega) (by omega) (by omega) (by omega) (by omega) (by omega) (by omega) (by omega))
  rw [H1.out, H2.out] at HE
  have bel : Below w.heap.size w w6 := (((((Below.refl _ _).alloc (Nat.le_refl _) _).alloc (by simp) _).trans (hb5.mono (by simp; omega)))).trans (hb6.mono (by omega))
  clear hb5 hb6
  have e1 : (((1 : Int) + (a : Int)) == (4 : Int)) = false := beq_eq_false_iff_ne.2 (by have := HNa.out; omega)
  have hE : (T1.toList == T2.toList) = false := by rw [HE.out, e1, Bool.false_and]
  clear HE
  go_wp2
  go_ret
  exact ⟨rfl, bel⟩

set_option maxHeartbeats 2000000 in
theorem apart_04 (k l : Int) (s t : ByteArray) (i j : Int) (a b c d : Nat) (hk1 : -9223372036854775808 ≤ k) (hk2 : k ≤ 9223372036854775807) (hl1 : -9223372036854775808 ≤ l) (hl2 : l ≤ 9223372036854775807) (hi1 : -9223372036854775808 ≤ i) (hi2 : i ≤ 9223372036854775807) (hj1 : -9223372036854775808 ≤ j) (hj2 : j ≤ 9223372036854775807)
    (hs : s.size ≤ maxLen) (ht : t.size ≤ maxLen) (w : World) (hL : Leads w) (Ha : Hid (pickI k 4 = (a : Int))) (Hb : Hid (pickI l 4 = (b : Int))) (Hc : Hid (pickI i 3 = (c : Int))) (Hd : Hid (pickI j 3 = (d : Int)))
    (ha4 : a < 4) (hb4 : b < 4) (hc3 : c < 3) (hd3 : d < 3) (hA : ¬ (a = 1 ∨ a = 3)) (hB : b = 3 ∧ ¬ t.size ≤ 20) :
    Calls Tryd.prog 9 #[.int .i64 k, .int .i64 l, .string s, .string t, .int .i64 i, .int .i64 j] w fun e w' => e = .returned (.bool true) ∧ Below w.heap.size w w' := by
  unfold maxLen at hs ht
  have HL := Lib.hid hL
  clear hL
  have na2 : ((1 : Int) + (a : Int) == 2) = false := beq_eq_false_iff_ne.2 (by omega)
  have na4 : ((1 : Int) + (a : Int) == 4) = false := beq_eq_false_iff_ne.2 (by omega)
  have Xa := Lib.hid (show txt (1 + a) s = ⟨#[]⟩ by unfold txt; rw [if_neg (by omega)])
  have HNa := Lib.hid hA
  clear hA
  obtain ⟨rfl, hmb⟩ := hB
  have Xb := Lib.hid (show txt 4 t = _ from cutX_long hmb)
  go_enter Tryd.func9, Tryd.ntmps9
  go_wp2_with fail
  refine (picked_any k 4 _ hk1 hk2 (by omega) (by omega)).mono ?_
  rw [Ha.out]
  rintro e w1 ⟨rfl, rfl⟩
  go_wp2_with fail
  refine (picked_any i 3 _ hi1 hi2 (by omega) (by omega)).mono ?_
  rw [Hc.out]
  rintro e w2 ⟨rfl, rfl⟩
  go_wp2_with fail
  refine (picked_any l 4 _ hl1 hl2 (by omega) (by omega)).mono ?_
  rw [Hb.out]
  rintro e w3 ⟨rfl, rfl⟩
  go_wp2_with fail
  refine (picked_any j 3 _ hj1 hj2 (by omega) (by omega)).mono ?_
  rw [Hd.out]
  rintro e w4 ⟨rfl, rfl⟩
  go_wp2_with fail
  rw [← Xb.out]
  refine (tell_okI ((1 : Int) + (a : Int)) (c : Int) (⟨#[]⟩) _ ((HL.out.alloc _).alloc _) (by omega) (by have := txt_good (1 + a) s; rw [Xa.out] at this; simpa using this)).mono ?_
  generalize hT1 : tellT (Int.toNat ((1 : Int) + (a : Int))) (Int.toNat (c : Int)) (⟨#[]⟩) = T1
  have H1 := Lib.hid hT1
  clear hT1
  rintro e w5 ⟨rfl, hb5⟩
  have hz := two_ans w w5 _ _ _ hb5
  have a0 := hz.1 0
  have a1 := hz.1 1
  have a2 := hz.1 2
  have b0 := hz.2 0
  have b1 := hz.2 1
  have b2 := hz.2 2
  simp only [List.getElem?_toArray, List.getElem?_cons_zero, List.getElem?_cons_succ] at a0 a1 a2 b0 b1 b2
  have HZ := Lib.hid hz
  clear hz
  go_wp2_with fail
  refine (tell_okI (4 : Int) (d : Int) (txt 4 t) _ (((HL.out.alloc _).alloc _).below hb5) (by omega) (txt_good 4 t)).mono ?_
  generalize hT2 : tellT (Int.toNat (4 : Int)) (Int.toNat (d : Int)) (txt 4 t) = T2
  have H2 := Lib.hid hT2
  clear hT2
  rintro e w6 ⟨rfl, hb6⟩
  have l5 : w.heap.size + 1 < w5.heap.size := by have := hb5.size; simp at this; omega
  have a3 := (hb6.cell (p := ⟨w.heap.size, 0, none⟩) (by simp; omega)).trans a0
  have a4 := (hb6.cell (p := ⟨w.heap.size, 1, none⟩) (by simp; omega)).trans a1
  have a5 := (hb6.cell (p := ⟨w.heap.size, 2, none⟩) (by simp; omega)).trans a2
  have b3 := (hb6.cell (p := ⟨w.heap.size + 1, 0, none⟩) (by simp; omega)).trans b0
  have b4 := (hb6.cell (p := ⟨w.heap.size + 1, 1, none⟩) (by simp; omega)).trans b1
  have b5 := (hb6.cell (p := ⟨w.heap.size + 1, 2, none⟩) (by simp; omega)).trans b2
  clear a0 a1 a2 b0 b1 b2
  have HE := Lib.hid (tell_eqI ((1 : Int) + (a : Int)) (4 : Int) (c : Int) (d : Int) (⟨#[]⟩) (txt 4 t) (by omega) (by omega) (by omega) (by omega) (by omega) (by omega) (by omega) (by omega))
  rw [H1.out, H2.out] at HE
  have bel : Below w.heap.size w w6 := (((((Below.refl _ _).alloc (Nat.le_refl _) _).alloc (by simp) _).trans (hb5.mono (by simp; omega)))).trans (hb6.mono (by omega))
  clear hb5 hb6
  have e1 : (((1 : Int) + (a : Int)) == (4 : Int)) = false := beq_eq_false_iff_ne.2 (by have := HNa.out; omega)
  have hE : (T1.toList == T2.toList) = false := by rw [HE.out, e1, Bool.false_and]
  clear HE
  go_wp2
  go_ret
  exact ⟨rfl, bel⟩

set_option maxHeartbeats 2000000 in
theorem apart_00 (k l : Int) (s t : ByteArray) (i j : Int) (a b c d : Nat) (hk1 : -9223372036854775808 ≤ k) (hk2 : k ≤ 9223372036854775807) (hl1 : -9223372036854775808 ≤ l) (hl2 : l ≤ 9223372036854775807) (hi1 : -9223372036854775808 ≤ i) (hi2 : i ≤ 9223372036854775807) (hj1 : -9223372036854775808 ≤ j) (hj2 : j ≤ 9223372036854775807)
    (hs : s.size ≤ maxLen) (ht : t.size ≤ maxLen) (w : World) (hL : Leads w) (Ha : Hid (pickI k 4 = (a : Int))) (Hb : Hid (pickI l 4 = (b : Int))) (Hc : Hid (pickI i 3 = (c : Int))) (Hd : Hid (pickI j 3 = (d : Int)))
    (ha4 : a < 4) (hb4 : b < 4) (hc3 : c < 3) (hd3 : d < 3) (hA : ¬ (a = 1 ∨ a = 3)) (hB : ¬ (b = 1 ∨ b = 3)) :
    Calls Tryd.prog 9 #[.int .i64 k, .int .i64 l, .string s, .string t, .int .i64 i, .int .i64 j] w fun e w' => e = .returned (.bool true) ∧ Below w.heap.size w w' := by
  unfold maxLen at hs ht
  have HL := Lib.hid hL
  clear hL
  have na2 : ((1 : Int) + (a : Int) == 2) = false := beq_eq_false_iff_ne.2 (by omega)
  have na4 : ((1 : Int) + (a : Int) == 4) = false := beq_eq_false_iff_ne.2 (by omega)
  have Xa := Lib.hid (show txt (1 + a) s = ⟨#[]⟩ by unfold txt; rw [if_neg (by omega)])
  have HNa := Lib.hid hA
  clear hA
  have nb2 : ((1 : Int) + (b : Int) == 2) = false := beq_eq_false_iff_ne.2 (by omega)
  have nb4 : ((1 : Int) + (b : Int) == 4) = false := beq_eq_false_iff_ne.2 (by omega)
  have Xb := Lib.hid (show txt (1 + b) t = ⟨#[]⟩ by unfold txt; rw [if_neg (by omega)])
  have HNb := Lib.hid hB
  clear hB
  go_enter Tryd.func9, Tryd.ntmps9
  go_wp2_with fail
  refine (picked_any k 4 _ hk1 hk2 (by omega) (by omega)).mono ?_
  rw [Ha.out]
  rintro e w1 ⟨rfl, rfl⟩
  go_wp2_with fail
  refine (picked_any i 3 _ hi1 hi2 (by omega) (by omega)).mono ?_
  rw [Hc.out]
  rintro e w2 ⟨rfl, rfl⟩
  go_wp2_with fail
  refine (picked_any l 4 _ hl1 hl2 (by omega) (by omega)).mono ?_
  rw [Hb.out]
  rintro e w3 ⟨rfl, rfl⟩
  go_wp2_with fail
  refine (picked_any j 3 _ hj1 hj2 (by omega) (by omega)).mono ?_
  rw [Hd.out]
  rintro e w4 ⟨rfl, rfl⟩
  go_wp2_with fail
  refine (tell_okI ((1 : Int) + (a : Int)) (c : Int) (⟨#[]⟩) _ ((HL.out.alloc _).alloc _) (by omega) (by have := txt_good (1 + a) s; rw [Xa.out] at this; simpa using this)).mono ?_
  generalize hT1 : tellT (Int.toNat ((1 : Int) + (a : Int))) (Int.toNat (c : Int)) (⟨#[]⟩) = T1
  have H1 := Lib.hid hT1
  clear hT1
  rintro e w5 ⟨rfl, hb5⟩
  have hz := two_ans w w5 _ _ _ hb5
  have a0 := hz.1 0
  have a1 := hz.1 1
  have a2 := hz.1 2
  have b0 := hz.2 0
  have b1 := hz.2 1
  have b2 := hz.2 2
  simp only [List.getElem?_toArray, List.getElem?_cons_zero, List.getElem?_cons_succ] at a0 a1 a2 b0 b1 b2
  have HZ := Lib.hid hz
  clear hz
  go_wp2_with fail
  refine (tell_okI ((1 : Int) + (b : Int)) (d : Int) (⟨#[]⟩) _ (((HL.out.alloc _).alloc _).below hb5) (by omega) (by have := txt_good (1 + b) t; rw [Xb.out] at this; simpa using this)).mono ?_
  generalize hT2 : tellT (Int.toNat ((1 : Int) + (b : Int))) (Int.toNat (d : Int)) (⟨#[]⟩) = T2
  have H2 := Lib.hid hT2
  clear hT2
  rintro e w6 ⟨rfl, hb6⟩
  have l5 : w.heap.size + 1 < w5.heap.size := by have := hb5.size; simp at this; omega
  have a3 := (hb6.cell (p := ⟨w.heap.size, 0, none⟩) (by simp; omega)).trans a0
  have a4 := (hb6.cell (p := ⟨w.heap.size, 1, none⟩) (by simp; omega)).trans a1
  have a5 := (hb6.cell (p := ⟨w.heap.size, 2, none⟩) (by simp; omega)).trans a2
  have b3 := (hb6.cell (p := ⟨w.heap.size + 1, 0, none⟩) (by simp; omega)).trans b0
  have b4 := (hb6.cell (p := ⟨w.heap.size + 1, 1, none⟩) (by simp; omega)).trans b1
  have b5 := (hb6.cell (p := ⟨w.heap.size + 1, 2, none⟩) (by simp; omega)).trans b2
  clear a0 a1 a2 b0 b1 b2
  have HE := Lib.hid (tell_eqI ((1 : Int) + (a : Int)) ((1 : Int) + (b : Int)) (c : Int) (d : Int) (⟨#[]⟩) (⟨#[]⟩) (by omega) (by omega) (by omega) (by omega) (by omega) (by omega) (by omega) (by omega))
  rw [H1.out, H2.out] at HE
  have bel : Below w.heap.size w w6 := (((((Below.refl _ _).alloc (Nat.le_refl _) _).alloc (by simp) _).trans (hb5.mono (by simp; omega)))).trans (hb6.mono (by omega))
  clear hb5 hb6
  by_cases hab : a = b
  · subst hab
    by_cases hcd : c = d
    · subst hcd
      have hE : (T1.toList == T2.toList) = true := by rw [HE.out]; simp
      clear HE
      go_wp2
      go_ret
      exact ⟨rfl, bel⟩
    · have e3 : ((c : Int) == (d : Int)) = false := beq_eq_false_iff_ne.2 (by omega)
      have hE : (T1.toList == T2.toList) = false := by rw [HE.out, e3, Bool.and_false, Bool.and_false]
      clear HE hcd
      go_wp2
      go_ret
      exact ⟨rfl, bel⟩
  · have e1 : (((1 : Int) + (a : Int)) == ((1 : Int) + (b : Int))) = false := beq_eq_false_iff_ne.2 (by omega)
    have hE : (T1.toList == T2.toList) = false := by rw [HE.out, e1, Bool.false_and]
    clear HE hab
    go_wp2
    go_ret
    exact ⟨rfl, bel⟩

end Go.Proofs.YtpbaobmegomfpaaDoor
