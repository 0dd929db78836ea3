/-
  Plain mathematics: answers as texts.
-/
import Derived.Test.YtpbaobmegomfpaaDoorMath3
namespace Go.Proofs.YtpbaobmegomfpaaDoor
open Go.RowKit

def leadL : Nat → List UInt8
  | 1 => [111, 107]
  | 2 => [61]
  | 3 => [110, 111, 110, 101]
  | 4 => [33]
  | _ => []
def leadAt (k : Nat) : ByteArray := ⟨(leadL k).toArray⟩
def markAt : Nat → ByteArray
  | 0 => ⟨#[73]⟩
  | 1 => ⟨#[84]⟩
  | _ => ⟨#[70]⟩
/-- the text of an answer -/
def tellT (k st : Nat) (x : ByteArray) : ByteArray := (markAt st ++ leadAt k) ++ x
/-- what is wrong with an answer -/
def tellE (k : Int) (x : ByteArray) (st : Int) : Int :=
  if k < 1 ∨ 4 < k ∨ st < 0 ∨ 2 < st then 3 else if (decide (k = 2 ∨ k = 4) == x.toList.isEmpty) = true ∨ 60 < x.size then 4 else 0
theorem tellE_kind {k st : Int} {x : ByteArray} (h : k < 1 ∨ 4 < k ∨ st < 0 ∨ 2 < st) : tellE k x st = 3 := by unfold tellE; rw [if_pos h]
theorem tellE_form {k st : Int} {x : ByteArray} (h : ¬ (k < 1 ∨ 4 < k ∨ st < 0 ∨ 2 < st)) (h2 : (decide (k = 2 ∨ k = 4) == x.toList.isEmpty) = true ∨ 60 < x.size) : tellE k x st = 4 := by unfold tellE; rw [if_neg h, if_pos h2]
theorem tellE_ok {k st : Int} {x : ByteArray} (h : ¬ (k < 1 ∨ 4 < k ∨ st < 0 ∨ 2 < st)) (h2 : ¬ ((decide (k = 2 ∨ k = 4) == x.toList.isEmpty) = true ∨ 60 < x.size)) : tellE k x st = 0 := by unfold tellE; rw [if_neg h, if_neg h2]
theorem app_empty {a x : ByteArray} (h : x.toList.isEmpty = true) : a ++ x = a := by
  rw [Lib.toList_data, List.isEmpty_iff] at h
  apply ba_ext
  rw [ByteArray.data_append, Array.toList_append, h, List.append_nil]

end Go.Proofs.YtpbaobmegomfpaaDoor
