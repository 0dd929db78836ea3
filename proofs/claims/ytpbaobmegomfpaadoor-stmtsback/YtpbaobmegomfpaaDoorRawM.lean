/-
  Plain mathematics: the statements that raw numbers stand for.
-/
import Derived.Test.YtpbaobmegomfpaaDoorMath5
namespace Go.Proofs.YtpbaobmegomfpaaDoor
open Go.RowKit
set_option linter.unusedVariables false

def keyL : Nat → List UInt8
  | 0 => [97]
  | 1 => [98]
  | 2 => [114, 111, 119]
  | _ => [110, 97, 109, 101]
def keyAt (a : Nat) : ByteArray := ⟨(keyL a).toArray⟩
/-- the digits of a number below 100 -/
def numL (n : Nat) : List UInt8 := if n < 10 then [UInt8.ofNat (48 + n)] else [UInt8.ofNat (48 + n / 10), UInt8.ofNat (48 + n % 10)]
def numAt (n : Nat) : ByteArray := ⟨(numL n).toArray⟩
def valAt (b : Nat) : ByteArray := ⟨#[118]⟩ ++ numAt b
def prepAt (c b : Nat) : ByteArray :=
  match c with
  | 0 => ⟨#[103, 101, 116, 32, 97]⟩
  | 1 => ⟨#[114, 101, 97, 100, 32, 114, 111, 119]⟩
  | 2 => ⟨#[112, 117, 116, 32, 114, 111, 119, 32]⟩ ++ valAt b
  | _ => ⟨#[112, 117, 116, 32, 98, 32, 120]⟩
/-- the kind, by a number below 24 (and one below 3) -/
def rawK (k c : Nat) : Nat :=
  if k < 3 then 1 else if k < 5 then 2 else if k = 5 then 3 else if k = 6 then (if c = 0 then 4 else 5) else if k < 10 then 6 else if k < 13 then 7 else if k < 15 then 8 else if k < 18 then 9 else if k < 22 then 10 else 11
def rawKey (k a : Nat) : ByteArray := if k < 7 then ⟨#[]⟩ else keyAt a
def rawVal (k b c : Nat) : ByteArray := if k < 15 then ⟨#[]⟩ else if k < 22 then valAt b else prepAt c b

theorem keyAt_name : ∀ a, a < 4 → bndB 97 122 8 (keyAt a) = true := by decide
theorem valAt_value : ∀ b, b < 12 → bndB 33 126 20 (valAt b) = true := by decide
theorem prepAt_prep : ∀ c, c < 4 → ∀ b, b < 12 → prepB (prepAt c b) = true := by decide +kernel
theorem raw_check {k a b c3 c4 : Nat} (hk : k < 24) (ha : a < 4) (hb : b < 12) (hc3 : c3 < 3) (hc4 : c4 < 4) : checkE (rawK k c3) (rawKey k a) (rawVal k b c4) = 0 := by
  have h1 := keyAt_name a ha
  have h2 := valAt_value b hb
  have h3 := prepAt_prep c4 hc4 b hb
  have hcase : k < 3 ∨ (¬ k < 3 ∧ k < 5) ∨ k = 5 ∨ k = 6 ∨ (6 < k ∧ k < 10) ∨ (¬ k < 10 ∧ k < 13) ∨ (¬ k < 13 ∧ k < 15) ∨ (¬ k < 15 ∧ k < 18) ∨ (¬ k < 18 ∧ k < 22) ∨ ¬ k < 22 := by omega
  have small : ∀ n : Nat, 1 ≤ n → n < 6 → checkE n ⟨#[]⟩ ⟨#[]⟩ = 0 := by
    intro n h1 h6
    refine checkE_ok (by omega) ?_ ?_
    · rw [keyB_no (by omega)]; exact empty_of rfl
    · unfold valueB; rw [if_neg (by omega), plainV_no (by omega)]; exact empty_of rfl
  rcases hcase with h | ⟨h, h'⟩ | h | h | ⟨h, h'⟩ | ⟨h, h'⟩ | ⟨h, h'⟩ | ⟨h, h'⟩ | ⟨h, h'⟩ | h
  · have e : rawK k c3 = 1 := by unfold rawK; rw [if_pos h]
    rw [e]; unfold rawKey rawVal; rw [if_pos (by omega), if_pos (by omega)]; exact small 1 (by omega) (by omega)
  · have e : rawK k c3 = 2 := by unfold rawK; rw [if_neg h, if_pos h']
    rw [e]; unfold rawKey rawVal; rw [if_pos (by omega), if_pos (by omega)]; exact small 2 (by omega) (by omega)
  · subst h
    exact small 3 (by omega) (by omega)
  · subst h
    have e : rawK 6 c3 = 4 ∨ rawK 6 c3 = 5 := by unfold rawK; simp; omega
    rcases e with e | e
    · rw [e]; exact small 4 (by omega) (by omega)
    · rw [e]; exact small 5 (by omega) (by omega)
  · have e : rawK k c3 = 6 := by unfold rawK; rw [if_neg (by omega), if_neg (by omega), if_neg (by omega), if_neg (by omega), if_pos h']
    rw [e]; unfold rawKey rawVal; rw [if_neg (by omega), if_pos (by omega)]
    exact checkE_ok (by omega) (by rw [keyB_yes (by omega)]; exact h1) (by unfold valueB; rw [if_neg (by omega), plainV_no (by omega)]; exact empty_of rfl)
  · have e : rawK k c3 = 7 := by unfold rawK; rw [if_neg (by omega), if_neg (by omega), if_neg (by omega), if_neg (by omega), if_neg h, if_pos h']
    rw [e]; unfold rawKey rawVal; rw [if_neg (by omega), if_pos (by omega)]
    exact checkE_ok (by omega) (by rw [keyB_yes (by omega)]; exact h1) (by unfold valueB; rw [if_neg (by omega), plainV_no (by omega)]; exact empty_of rfl)
  · have e : rawK k c3 = 8 := by unfold rawK; rw [if_neg (by omega), if_neg (by omega), if_neg (by omega), if_neg (by omega), if_neg (by omega), if_neg h, if_pos h']
    rw [e]; unfold rawKey rawVal; rw [if_neg (by omega), if_pos (by omega)]
    exact checkE_ok (by omega) (by rw [keyB_yes (by omega)]; exact h1) (by unfold valueB; rw [if_neg (by omega), plainV_no (by omega)]; exact empty_of rfl)
  · have e : rawK k c3 = 9 := by unfold rawK; rw [if_neg (by omega), if_neg (by omega), if_neg (by omega), if_neg (by omega), if_neg (by omega), if_neg (by omega), if_neg h, if_pos h']
    rw [e]; unfold rawKey rawVal; rw [if_neg (by omega), if_neg (by omega), if_pos (by omega)]
    exact checkE_ok (by omega) (by rw [keyB_yes (by omega)]; exact h1) (by unfold valueB; rw [if_neg (by omega), plainV_yes (by omega)]; exact h2)
  · have e : rawK k c3 = 10 := by unfold rawK; rw [if_neg (by omega), if_neg (by omega), if_neg (by omega), if_neg (by omega), if_neg (by omega), if_neg (by omega), if_neg (by omega), if_neg h, if_pos h']
    rw [e]; unfold rawKey rawVal; rw [if_neg (by omega), if_neg (by omega), if_pos (by omega)]
    exact checkE_ok (by omega) (by rw [keyB_yes (by omega)]; exact h1) (by unfold valueB; rw [if_neg (by omega), plainV_yes (by omega)]; exact h2)
  · have e : rawK k c3 = 11 := by unfold rawK; rw [if_neg (by omega), if_neg (by omega), if_neg (by omega), if_neg (by omega), if_neg (by omega), if_neg (by omega), if_neg (by omega), if_neg (by omega), if_neg h]
    rw [e]; unfold rawKey rawVal; rw [if_neg (by omega), if_neg (by omega), if_neg h]
    exact checkE_ok (by omega) (by rw [keyB_yes (by omega)]; exact h1) (by unfold valueB; rw [if_pos (by omega)]; exact h3)

end Go.Proofs.YtpbaobmegomfpaaDoor
