/-
  Plain mathematics: what follows from a good statement; its text.
-/
import Derived.Test.YtpbaobmegomfpaaDoorMath2
namespace Go.Proofs.YtpbaobmegomfpaaDoor
open Go.RowKit

theorem empty_of {s : ByteArray} (h : s.size = 0) : s.toList.isEmpty = true := by
  rw [Lib.toList_data, List.isEmpty_iff]
  have : s.data.toList.length = 0 := by simpa using congrArg (fun n => n) (show s.data.size = 0 from h)
  exact List.length_eq_zero_iff.1 this
theorem full_of {s : ByteArray} (h : 1 ≤ s.size) : s.toList.isEmpty = false := by
  cases e : s.toList.isEmpty
  · rfl
  · have := isEmpty_size e; omega
theorem wordL_pos : ∀ k, k ≤ 11 → 1 ≤ k → 1 ≤ (wordL k).length := by decide
theorem kind_pos {t : ByteArray} (h : kindN (cutA t) ≠ 0) : 1 ≤ t.size := by
  have h1 := kindN_word (s := cutA t) (by omega)
  have h2 := wordL_pos (kindN (cutA t)) (kindN_le _) (by omega)
  rw [h1] at h2
  have h3 : (cutA t).data.toList.length = (cutA t).size := by simp
  have := cutA_size t
  have := cutI_le t
  omega
theorem prepB_size {v : ByteArray} (h : prepB v = true) : 1 ≤ v.size ∧ v.size ≤ 60 := by
  rw [prepB_read] at h
  simp only [Bool.and_eq_true, decide_eq_true_eq] at h
  refine ⟨kind_pos (by omega), ?_⟩
  by_cases hl : 60 < v.size
  · rw [readE_long hl] at h; omega
  · omega

/-- a good statement -/
structure Good (k : Int) (key v : ByteArray) : Prop where
  lo : 1 ≤ k
  hi : k ≤ 11
  key8 : key.size ≤ 8
  v60 : v.size ≤ 60
  keyE : key.toList.isEmpty = decide (k < 6)
  vE : v.toList.isEmpty = decide (k < 9)
theorem good_of {k : Int} {key v : ByteArray} (h : checkE k key v = 0) : Good k key v := by
  by_cases hk : k < 1 ∨ 11 < k
  · rw [checkE_kind hk] at h; cases h
  · cases h1 : keyB k key
    · rw [checkE_key hk h1] at h; cases h
    · cases h2 : valueB k v
      · rw [checkE_value hk h2] at h; cases h
      · have a1 : key.size ≤ 8 ∧ key.toList.isEmpty = decide (k < 6) := by
          by_cases h6 : 6 ≤ k ∧ k ≤ 11
          · rw [keyB_yes h6] at h1
            have := bndB_size h1
            exact ⟨this.2, by rw [full_of this.1, decide_eq_false (by omega)]⟩
          · rw [keyB_no h6] at h1
            exact ⟨by have := isEmpty_size h1; omega, by rw [h1, decide_eq_true (by omega)]⟩
        have a2 : v.size ≤ 60 ∧ v.toList.isEmpty = decide (k < 9) := by
          by_cases h11 : k = 11
          · unfold valueB at h2
            rw [if_pos h11] at h2
            have := prepB_size h2
            exact ⟨this.2, by rw [full_of this.1, decide_eq_false (by omega)]⟩
          · unfold valueB at h2
            rw [if_neg h11] at h2
            by_cases h9 : k = 9 ∨ k = 10
            · rw [plainV_yes h9] at h2
              have := bndB_size h2
              exact ⟨by omega, by rw [full_of this.1, decide_eq_false (by omega)]⟩
            · rw [plainV_no h9] at h2
              exact ⟨by have := isEmpty_size h2; omega, by rw [h2, decide_eq_true (by omega)]⟩
        exact ⟨by omega, by omega, a1.1, a2.1, a1.2, a2.2⟩

/-- the text of a statement -/
def textOf (k : Nat) (key v : ByteArray) : ByteArray :=
  if k < 6 then wordAt k else if k < 9 then wordAt k ++ (⟨#[32]⟩ ++ key) else (wordAt k ++ (⟨#[32]⟩ ++ key)) ++ (⟨#[32]⟩ ++ v)
theorem textOf_6 {k : Nat} {key v : ByteArray} (h : k < 6) : textOf k key v = wordAt k := by unfold textOf; rw [if_pos h]
theorem textOf_9 {k : Nat} {key v : ByteArray} (h : ¬ k < 6) (h2 : k < 9) : textOf k key v = wordAt k ++ (⟨#[32]⟩ ++ key) := by unfold textOf; rw [if_neg h, if_pos h2]
theorem textOf_12 {k : Nat} {key v : ByteArray} (h : ¬ k < 9) : textOf k key v = (wordAt k ++ (⟨#[32]⟩ ++ key)) ++ (⟨#[32]⟩ ++ v) := by unfold textOf; rw [if_neg (by omega), if_neg h]
theorem app_assoc (a b c : ByteArray) : (a ++ b) ++ c = a ++ (b ++ c) := by
  apply ba_ext; simp [ByteArray.data_append]
theorem wordAt_size {k : Nat} (h : k ≤ 11) : (wordAt k).size ≤ 8 := by
  have h1 := wordL_len k h
  have h2 : (wordAt k).size = (wordL k).length := by show (wordAt k).data.size = _; simp [wordAt]
  omega

end Go.Proofs.YtpbaobmegomfpaaDoor
