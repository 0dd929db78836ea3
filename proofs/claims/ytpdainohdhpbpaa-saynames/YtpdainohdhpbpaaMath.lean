/-
  Plain mathematics of strings for the proofs of package say: nothing of the program is imported.
-/
import Derived.WalkKit
namespace Go.Proofs.Ytpdainohdhpbpaa
open Go.RowKit

/-- 1 to lim bytes, each from lo to hi -/
def bndB (lo hi lim : Nat) (s : ByteArray) : Bool := decide (1 ≤ s.size) && decide (s.size ≤ lim) && s.data.toList.all fun c => decide (lo ≤ c.toNat) && decide (c.toNat ≤ hi)

theorem bndB_short {lo hi lim : Nat} {s : ByteArray} (h : s.size = 0 ∨ lim < s.size) : bndB lo hi lim s = false := by
  unfold bndB
  rcases h with h | h
  · rw [decide_eq_false (by omega)]; rfl
  · rw [decide_eq_false (p := s.size ≤ lim) (by omega)]; simp

theorem bndB_bad {lo hi lim : Nat} {s : ByteArray} {k : Nat} (hk : k < s.size) (h : s[k].toNat < lo ∨ hi < s[k].toNat) : bndB lo hi lim s = false := by
  unfold bndB
  have : (s.data.toList.all fun c => decide (lo ≤ c.toNat) && decide (c.toNat ≤ hi)) = false := by
    rw [List.all_eq_false]
    refine ⟨s[k], ?_, ?_⟩
    · have : s[k] = s.data.toList[k]'(by simpa using hk) := rfl
      rw [this]; exact List.getElem_mem _
    · simp; omega
  rw [this]; simp

theorem bndB_good {lo hi lim : Nat} {s : ByteArray} (h1 : 1 ≤ s.size) (h2 : s.size ≤ lim) (h : ∀ k (hk : k < s.size), lo ≤ s[k].toNat ∧ s[k].toNat ≤ hi) : bndB lo hi lim s = true := by
  unfold bndB
  rw [decide_eq_true h1, decide_eq_true h2]
  simp only [Bool.true_and, List.all_eq_true]
  intro c hc
  obtain ⟨k, hk, rfl⟩ := List.getElem_of_mem hc
  have := h k (by simpa using hk)
  have e : s[k]'(by simpa using hk) = s.data.toList[k] := rfl
  rw [e] at this
  simpa using this

/-- a ≤ n ≤ b -/
def inB (a n b : Int) : Bool := decide (a ≤ n) && decide (n ≤ b)
theorem inB_yes {a n b : Int} (h : a ≤ n ∧ n ≤ b) : inB a n b = true := by simp [inB, h]
theorem inB_no {a n b : Int} (h : ¬ (a ≤ n ∧ n ≤ b)) : inB a n b = false := by
  unfold inB; by_cases h1 : a ≤ n
  · rw [decide_eq_false (p := n ≤ b) (by omega)]; simp
  · rw [decide_eq_false h1]; rfl

theorem bndB_len {lo hi lim k : Nat} {s : ByteArray} (h : ∀ j (hj : j < s.size), j < k → lo ≤ s[j].toNat ∧ s[j].toNat ≤ hi) (hk : s.size ≤ k) :
    bndB lo hi lim s = inB 1 s.size lim := by
  by_cases h1 : 1 ≤ s.size ∧ s.size ≤ lim
  · rw [bndB_good h1.1 h1.2 (fun j hj => h j hj (by omega)), inB_yes (by omega)]
  · rw [bndB_short (by omega), inB_no (by omega)]

end Go.Proofs.Ytpdainohdhpbpaa
