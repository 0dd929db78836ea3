/-
  The walk of the law StmtsBad.
-/
import Derived.Test.YtpbaobmegomfpaaDoorRepeat
import Derived.Test.YtpbaobmegomfpaaDoorSay11
import Derived.Test.YtpbaobmegomfpaaDoorSay12
import Derived.Test.YtpbaobmegomfpaaDoorPicked
import Derived.Test.YtpbaobmegomfpaaDoorLaidWords
namespace Go.Proofs.YtpbaobmegomfpaaDoor
open Go.RowKit
set_option linter.unusedVariables false
set_option maxRecDepth 100000

theorem stmtsBad.laidFacts {W : World} (h : laidMetH Tryd.prog Rows.stmtsBadRow.laid W) : Words W := words_of h (by simp [Rows.stmtsBadRow, Rows.laid_tillerman_say_words, List.range, List.range.loop, wordL])

def v21 : ByteArray := ⟨#[118, 118, 118, 118, 118, 118, 118, 118, 118, 118, 118, 118, 118, 118, 118, 118, 118, 118, 118, 118, 118]⟩
def a60 : ByteArray := ⟨#[97, 97, 97, 97, 97, 97, 97, 97, 97, 97, 97, 97, 97, 97, 97, 97, 97, 97, 97, 97, 97, 97, 97, 97, 97, 97, 97, 97, 97, 97, 97, 97, 97, 97, 97, 97, 97, 97, 97, 97, 97, 97, 97, 97, 97, 97, 97, 97, 97, 97, 97, 97, 97, 97, 97, 97, 97, 97, 97, 97]⟩
theorem v21_eq : (⟨(Lib.repeatL (⟨#[118]⟩ : ByteArray).data.toList 21).toArray⟩ : ByteArray) = v21 := by decide
theorem a60_eq : (⟨(Lib.repeatL (⟨#[97]⟩ : ByteArray).data.toList 60).toArray⟩ : ByteArray) = a60 := by decide
def oddL : Nat → List UInt8
  | 0 => []
  | 1 => [119, 104, 97, 116]
  | 2 => [98, 101, 103, 105, 110, 32]
  | 3 => [98, 101, 103, 105, 110, 32, 120]
  | 4 => [103, 101, 116]
  | 5 => [103, 101, 116, 32]
  | 6 => [103, 101, 116, 32, 65]
  | 7 => [103, 101, 116, 32, 97, 32, 98]
  | 8 => [115, 101, 116, 32, 97]
  | 9 => [115, 101, 116, 32, 97, 32]
  | 10 => [115, 101, 116, 32, 97, 32, 98, 32, 99]
  | 11 => [112, 117, 116, 32, 97, 98, 99, 100, 101, 102, 103, 104, 105, 32, 118]
  | 12 => [112, 114, 101, 112, 32, 97]
  | 13 => [112, 114, 101, 112, 32, 97, 32, 98, 101, 103, 105, 110]
  | 14 => [112, 114, 101, 112, 32, 97, 32, 112, 114, 101, 112, 32, 98, 32, 103, 101, 116, 32, 99]
  | 15 => [112, 114, 101, 112, 32, 97, 32, 112, 117, 116, 32, 98]
  | 16 => [32, 103, 101, 116, 32, 97]
  | 17 => [112, 117, 116, 32, 97, 32, 118, 118, 118, 118, 118, 118, 118, 118, 118, 118, 118, 118, 118, 118, 118, 118, 118, 118, 118, 118, 118]
  | _ => [103, 101, 116, 32, 97, 97, 97, 97, 97, 97, 97, 97, 97, 97, 97, 97, 97, 97, 97, 97, 97, 97, 97, 97, 97, 97, 97, 97, 97, 97, 97, 97, 97, 97, 97, 97, 97, 97, 97, 97, 97, 97, 97, 97, 97, 97, 97, 97, 97, 97, 97, 97, 97, 97, 97, 97, 97, 97, 97, 97, 97, 97, 97, 97]
def oddAt (i : Nat) : ByteArray := ⟨(oddL i).toArray⟩
def errAt (i : Nat) : Int := if i < 2 ∨ i = 16 then 3 else if i = 18 then 1 else 4
theorem odd_get : ∀ (i : Nat) (h : i < [Value.string ⟨#[]⟩, .string ⟨#[119, 104, 97, 116]⟩, .string ⟨#[98, 101, 103, 105, 110, 32]⟩, .string ⟨#[98, 101, 103, 105, 110, 32, 120]⟩, .string ⟨#[103, 101, 116]⟩, .string ⟨#[103, 101, 116, 32]⟩, .string ⟨#[103, 101, 116, 32, 65]⟩, .string ⟨#[103, 101, 116, 32, 97, 32, 98]⟩, .string ⟨#[115, 101, 116, 32, 97]⟩, .string ⟨#[115, 101, 116, 32, 97, 32]⟩, .string ⟨#[115, 101, 116, 32, 97, 32, 98, 32, 99]⟩, .string ⟨#[112, 117, 116, 32, 97, 98, 99, 100, 101, 102, 103, 104, 105, 32, 118]⟩, .string ⟨#[112, 114, 101, 112, 32, 97]⟩, .string ⟨#[112, 114, 101, 112, 32, 97, 32, 98, 101, 103, 105, 110]⟩, .string ⟨#[112, 114, 101, 112, 32, 97, 32, 112, 114, 101, 112, 32, 98, 32, 103, 101, 116, 32, 99]⟩, .string ⟨#[112, 114, 101, 112, 32, 97, 32, 112, 117, 116, 32, 98]⟩, .string ⟨#[32, 103, 101, 116, 32, 97]⟩, .string (⟨#[112, 117, 116, 32, 97, 32]⟩ ++ v21), .string (⟨#[103, 101, 116, 32]⟩ ++ a60)].length), [Value.string ⟨#[]⟩, .string ⟨#[119, 104, 97, 116]⟩, .string ⟨#[98, 101, 103, 105, 110, 32]⟩, .string ⟨#[98, 101, 103, 105, 110, 32, 120]⟩, .string ⟨#[103, 101, 116]⟩, .string ⟨#[103, 101, 116, 32]⟩, .string ⟨#[103, 101, 116, 32, 65]⟩, .string ⟨#[103, 101, 116, 32, 97, 32, 98]⟩, .string ⟨#[115, 101, 116, 32, 97]⟩, .string ⟨#[115, 101, 116, 32, 97, 32]⟩, .string ⟨#[115, 101, 116, 32, 97, 32, 98, 32, 99]⟩, .string ⟨#[112, 117, 116, 32, 97, 98, 99, 100, 101, 102, 103, 104, 105, 32, 118]⟩, .string ⟨#[112, 114, 101, 112, 32, 97]⟩, .string ⟨#[112, 114, 101, 112, 32, 97, 32, 98, 101, 103, 105, 110]⟩, .string ⟨#[112, 114, 101, 112, 32, 97, 32, 112, 114, 101, 112, 32, 98, 32, 103, 101, 116, 32, 99]⟩, .string ⟨#[112, 114, 101, 112, 32, 97, 32, 112, 117, 116, 32, 98]⟩, .string ⟨#[32, 103, 101, 116, 32, 97]⟩, .string (⟨#[112, 117, 116, 32, 97, 32]⟩ ++ v21), .string (⟨#[103, 101, 116, 32]⟩ ++ a60)][i] = .string (oddAt i)
  | 0, _ => rfl
  | 1, _ => rfl
  | 2, _ => rfl
  | 3, _ => rfl
  | 4, _ => rfl
  | 5, _ => rfl
  | 6, _ => rfl
  | 7, _ => rfl
  | 8, _ => rfl
  | 9, _ => rfl
  | 10, _ => rfl
  | 11, _ => rfl
  | 12, _ => rfl
  | 13, _ => rfl
  | 14, _ => rfl
  | 15, _ => rfl
  | 16, _ => rfl
  | 17, _ => rfl
  | 18, _ => rfl
  | (i + 19), h => absurd h (by simp)
theorem err_get : ∀ (i : Nat) (h : i < [Value.int .i64 3, .int .i64 3, .int .i64 4, .int .i64 4, .int .i64 4, .int .i64 4, .int .i64 4, .int .i64 4, .int .i64 4, .int .i64 4, .int .i64 4, .int .i64 4, .int .i64 4, .int .i64 4, .int .i64 4, .int .i64 4, .int .i64 3, .int .i64 4, .int .i64 1].length), [Value.int .i64 3, .int .i64 3, .int .i64 4, .int .i64 4, .int .i64 4, .int .i64 4, .int .i64 4, .int .i64 4, .int .i64 4, .int .i64 4, .int .i64 4, .int .i64 4, .int .i64 4, .int .i64 4, .int .i64 4, .int .i64 4, .int .i64 3, .int .i64 4, .int .i64 1][i] = .int .i64 (errAt i)
  | 0, _ => rfl
  | 1, _ => rfl
  | 2, _ => rfl
  | 3, _ => rfl
  | 4, _ => rfl
  | 5, _ => rfl
  | 6, _ => rfl
  | 7, _ => rfl
  | 8, _ => rfl
  | 9, _ => rfl
  | 10, _ => rfl
  | 11, _ => rfl
  | 12, _ => rfl
  | 13, _ => rfl
  | 14, _ => rfl
  | 15, _ => rfl
  | 16, _ => rfl
  | 17, _ => rfl
  | 18, _ => rfl
  | (i + 19), h => absurd h (by simp)
theorem odd_read : ∀ i, i < 19 → readE (oddAt i) = errAt i := by decide +kernel
theorem err_pos (i : Nat) : errAt i ≠ 0 := by unfold errAt; split <;> (try split) <;> decide

theorem bad_cell (w : World) (i : Nat) (hi : i < 19) : ((w.alloc (.cells #[Value.string ⟨#[]⟩, .string ⟨#[119, 104, 97, 116]⟩, .string ⟨#[98, 101, 103, 105, 110, 32]⟩, .string ⟨#[98, 101, 103, 105, 110, 32, 120]⟩, .string ⟨#[103, 101, 116]⟩, .string ⟨#[103, 101, 116, 32]⟩, .string ⟨#[103, 101, 116, 32, 65]⟩, .string ⟨#[103, 101, 116, 32, 97, 32, 98]⟩, .string ⟨#[115, 101, 116, 32, 97]⟩, .string ⟨#[115, 101, 116, 32, 97, 32]⟩, .string ⟨#[115, 101, 116, 32, 97, 32, 98, 32, 99]⟩, .string ⟨#[112, 117, 116, 32, 97, 98, 99, 100, 101, 102, 103, 104, 105, 32, 118]⟩, .string ⟨#[112, 114, 101, 112, 32, 97]⟩, .string ⟨#[112, 114, 101, 112, 32, 97, 32, 98, 101, 103, 105, 110]⟩, .string ⟨#[112, 114, 101, 112, 32, 97, 32, 112, 114, 101, 112, 32, 98, 32, 103, 101, 116, 32, 99]⟩, .string ⟨#[112, 114, 101, 112, 32, 97, 32, 112, 117, 116, 32, 98]⟩, .string ⟨#[32, 103, 101, 116, 32, 97]⟩, .string (⟨#[112, 117, 116, 32, 97, 32]⟩ ++ v21), .string (⟨#[103, 101, 116, 32]⟩ ++ a60)] 9)).alloc (.cells #[Value.int .i64 3, .int .i64 3, .int .i64 4, .int .i64 4, .int .i64 4, .int .i64 4, .int .i64 4, .int .i64 4, .int .i64 4, .int .i64 4, .int .i64 4, .int .i64 4, .int .i64 4, .int .i64 4, .int .i64 4, .int .i64 4, .int .i64 3, .int .i64 4, .int .i64 1] 24)).cell? ⟨w.heap.size + 1, i, none⟩ = some (.int .i64 (errAt i)) := by
  rw [World.cell?_alloc_at _ _ _ _ (by simp)]
  have h := err_get i hi
  simp only [List.getElem?_toArray]
  rw [List.getElem?_eq_getElem hi, h]

set_option maxRecDepth 100000 in
set_option maxHeartbeats 2000000 in
theorem walk_StmtsBad (which n : Int) (hw : (Lit.int .i64 which).wf = true) (hn : (Lit.int .i64 n).wf = true) (w : World) (hW : Words w) :
    Calls Tryd.prog 8 #[.int .i64 which, .int .i64 n] w fun e w' => e = .returned (.bool true) ∧ Below w.heap.size w w' := by
  obtain ⟨hw1, hw2⟩ := i64_bd hw
  obtain ⟨hn1, hn2⟩ := i64_bd hn
  have HW := Lib.hid hW
  clear hW hw hn
  go_enter Tryd.func8, Tryd.ntmps8
  go_wp2_with fail
  refine (Tryd.strings_Repeat ⟨#[118]⟩ 21 _ (by omega) (by decide)).mono ?_
  rw [v21_eq]
  rintro e w1 ⟨rfl, hb1⟩
  have z1 : v21.size = 21 := rfl
  have z2 : a60.size = 60 := rfl
  go_wp2_with fail
  refine (Tryd.strings_Repeat ⟨#[97]⟩ 60 _ (by omega) (by decide)).mono ?_
  rw [a60_eq]
  rintro e w2 ⟨rfl, hb2⟩
  have b2 : Below w.heap.size w w2 := bel_trans hb1 hb2
  clear hb1 hb2
  go_wp2_with fail
  obtain ⟨i, hi, hi19⟩ : ∃ p : Nat, pickI which 19 = (p : Int) ∧ p < 19 := by
    have := pickI_bd which (m := 19) (by omega)
    exact ⟨(pickI which 19).toNat, by omega, by omega⟩
  refine (picked_any which 19 _ hw1 hw2 (by omega) (by omega)).mono ?_
  rw [hi]
  clear hi
  rintro e w3 ⟨rfl, rfl⟩
  have hrd := Lib.hid (odd_read i hi19)
  have hep := Lib.hid (err_pos i)
  have b3 := Lib.hid ((b2.alloc b2.size (.cells #[Value.string ⟨#[]⟩, .string ⟨#[119, 104, 97, 116]⟩, .string ⟨#[98, 101, 103, 105, 110, 32]⟩, .string ⟨#[98, 101, 103, 105, 110, 32, 120]⟩, .string ⟨#[103, 101, 116]⟩, .string ⟨#[103, 101, 116, 32]⟩, .string ⟨#[103, 101, 116, 32, 65]⟩, .string ⟨#[103, 101, 116, 32, 97, 32, 98]⟩, .string ⟨#[115, 101, 116, 32, 97]⟩, .string ⟨#[115, 101, 116, 32, 97, 32]⟩, .string ⟨#[115, 101, 116, 32, 97, 32, 98, 32, 99]⟩, .string ⟨#[112, 117, 116, 32, 97, 98, 99, 100, 101, 102, 103, 104, 105, 32, 118]⟩, .string ⟨#[112, 114, 101, 112, 32, 97]⟩, .string ⟨#[112, 114, 101, 112, 32, 97, 32, 98, 101, 103, 105, 110]⟩, .string ⟨#[112, 114, 101, 112, 32, 97, 32, 112, 114, 101, 112, 32, 98, 32, 103, 101, 116, 32, 99]⟩, .string ⟨#[112, 114, 101, 112, 32, 97, 32, 112, 117, 116, 32, 98]⟩, .string ⟨#[32, 103, 101, 116, 32, 97]⟩, .string (⟨#[112, 117, 116, 32, 97, 32]⟩ ++ v21), .string (⟨#[103, 101, 116, 32]⟩ ++ a60)] 9)).alloc (Nat.le_trans b2.size (by simp)) (.cells #[Value.int .i64 3, .int .i64 3, .int .i64 4, .int .i64 4, .int .i64 4, .int .i64 4, .int .i64 4, .int .i64 4, .int .i64 4, .int .i64 4, .int .i64 4, .int .i64 4, .int .i64 4, .int .i64 4, .int .i64 4, .int .i64 4, .int .i64 3, .int .i64 4, .int .i64 1] 24))
  have ce := Lib.hid (bad_cell w2 i hi19)
  clear b2
  go_wp2_with fail
  rw [odd_get]
  refine (read_no (oddAt i) _ (HW.out.below b3.out) (by rw [hrd.out]; exact hep.out)).mono ?_
  rw [hrd.out]
  rintro e w4 ⟨rfl, hb4⟩
  have ce4 := Lib.hid ((hb4.cell (p := ⟨w2.heap.size + 1, i, none⟩) (by simp)).trans ce.out)
  have b4 := Lib.hid (bel_trans b3.out hb4)
  have l4 : w2.heap.size + 1 < w4.heap.size := by have := hb4.size; simp at this; omega
  clear hb4
  go_wp2_with fail
  obtain ⟨j, hj, hj9⟩ : ∃ p : Nat, pickI n 9 = (p : Int) ∧ p < 9 := by
    have := pickI_bd n (m := 9) (by omega)
    exact ⟨(pickI n 9).toNat, by omega, by omega⟩
  refine (picked_any n 9 _ hn1 hn2 (by omega) (by omega)).mono ?_
  rw [hj]
  clear hj
  rintro e w5 ⟨rfl, rfl⟩
  have b5 := Lib.hid (b4.out.alloc b4.out.size (.cells #[.int .i64 0, .string ⟨#[]⟩, .string ⟨#[]⟩] 23))
  have hck := Lib.hid (checkE_kind (k := (12 : Int) + (j : Int)) (key := ⟨#[]⟩) (v := ⟨#[]⟩) (by omega))
  go_wp2_with fail
  refine (show_no ((12 : Int) + (j : Int)) ⟨#[]⟩ ⟨#[]⟩ _ (by decide) (by decide) (HW.out.below b5.out) (by rw [hck.out]; decide)).mono ?_
  rw [hck.out]
  rintro e w6 ⟨rfl, hb6⟩
  obtain ⟨_, x0, x1, x2, _⟩ := (Stm.new w4 0 ⟨#[]⟩ ⟨#[]⟩ 23).below hb6
  have ce6 := (hb6.cell (p := ⟨w2.heap.size + 1, i, none⟩) (by simp; omega)).trans ((World.cell?_alloc_past _ _ _ l4).trans ce4.out)
  have b6 : Below w.heap.size w w6 := bel_trans b5.out hb6
  clear hb6
  go_wp2
  go_ret
  exact ⟨by simp, b6⟩

end Go.Proofs.YtpbaobmegomfpaaDoor
