/-
  Plain mathematics of strings for the proofs of package say: nothing of the program is imported.
-/
import Derived.WalkKit
namespace Go.Proofs.YtpbaobmegomfpaaDoor
open Go.RowKit
set_option linter.unusedVariables false

/-- 1 to lim bytes, each from lo to hi -/
def bndB (lo hi lim : Nat) (s : ByteArray) : Bool := decide (1 ≤ s.size) && decide (s.size ≤ lim) && s.data.toList.all fun c => decide (lo ≤ c.toNat) && decide (c.toNat ≤ hi)

theorem bndB_short {lo hi lim : Nat} {s : ByteArray} (h : s.size = 0 ∨ lim < s.size) : bndB lo hi lim s = false := by
  unfold bndB
  rcases h with h | h
  · rw [decide_eq_false (by omega)]; rfl
  · rw [decide_eq_false (p := s.size ≤ lim) (by omega)]; simp

theorem bndB_bad {lo hi lim : Nat} {s : ByteArray} {k : Nat} (hk : k < s.size) (h : s[k].toNat < lo ∨ hi < s[k].toNat) : bndB lo hi lim s = false := by
  unfold bndB
  have : (s.data.toList.all fun c => decide (lo ≤ c.toNat) && decide (c.toNat ≤ hi)) = false := by
    rw [List.all_eq_false]
    refine ⟨s[k], ?_, ?_⟩
    · have : s[k] = s.data.toList[k]'(by simpa using hk) := rfl
      rw [this]; exact List.getElem_mem _
    · simp; omega
  rw [this]; simp

theorem bndB_good {lo hi lim : Nat} {s : ByteArray} (h1 : 1 ≤ s.size) (h2 : s.size ≤ lim) (h : ∀ k (hk : k < s.size), lo ≤ s[k].toNat ∧ s[k].toNat ≤ hi) : bndB lo hi lim s = true := by
  unfold bndB
  rw [decide_eq_true h1, decide_eq_true h2]
  simp only [Bool.true_and, List.all_eq_true]
  intro c hc
  obtain ⟨k, hk, rfl⟩ := List.getElem_of_mem hc
  have := h k (by simpa using hk)
  have e : s[k]'(by simpa using hk) = s.data.toList[k] := rfl
  rw [e] at this
  simpa using this

/-- a message: its kind, the length of its text, and this -/
def msg (k : UInt8) (s : ByteArray) : ByteArray := ⟨#[k, UInt8.ofNat s.size]⟩ ++ s

/-- a ≤ n ≤ b -/
def inB (a n b : Int) : Bool := decide (a ≤ n) && decide (n ≤ b)
theorem inB_yes {a n b : Int} (h : a ≤ n ∧ n ≤ b) : inB a n b = true := by simp [inB, h]
theorem inB_no {a n b : Int} (h : ¬ (a ≤ n ∧ n ≤ b)) : inB a n b = false := by
  unfold inB; by_cases h1 : a ≤ n
  · rw [decide_eq_false (p := n ≤ b) (by omega)]; simp
  · rw [decide_eq_false h1]; rfl

theorem bndB_len {lo hi lim k : Nat} {s : ByteArray} (h : ∀ j (hj : j < s.size), j < k → lo ≤ s[j].toNat ∧ s[j].toNat ≤ hi) (hk : s.size ≤ k) :
    bndB lo hi lim s = inB 1 s.size lim := by
  by_cases h1 : 1 ≤ s.size ∧ s.size ≤ lim
  · rw [bndB_good h1.1 h1.2 (fun j hj => h j hj (by omega)), inB_yes (by omega)]
  · rw [bndB_short (by omega), inB_no (by omega)]

/-- a number from 0 to m - 1 -/
def pickI (n m : Int) : Int := (if n < 0 then -(n + 1) else n) % m
theorem pickI_neg {n m : Int} (h : n < 0) : pickI n m = -(n + 1) % m := by unfold pickI; rw [if_pos h]
theorem pickI_pos {n m : Int} (h : ¬ n < 0) : pickI n m = n % m := by unfold pickI; rw [if_neg h]
theorem pickI_bd (n : Int) {m : Int} (hm : 0 < m) : 0 ≤ pickI n m ∧ pickI n m < m := ⟨Int.emod_nonneg _ (by omega), Int.emod_lt_of_pos _ hm⟩

theorem ret_int {k : IntKind} {a b : Int} (h : a = b) : Ending.returned (.int k a) = .returned (.int k b) := by rw [h]

theorem msg_size (k : UInt8) (s : ByteArray) : (msg k s).size = s.size + 2 := by
  unfold msg; rw [ByteArray.size_append]; show 2 + s.size = _; omega
theorem msg_toList (k : UInt8) (s : ByteArray) : (msg k s).data.toList = k :: UInt8.ofNat s.size :: s.data.toList := by
  unfold msg; rw [ByteArray.data_append]; simp
theorem get_toList (s : ByteArray) (i : Nat) (h : i < s.size) : s[i] = s.data.toList[i]'(by simpa using h) := rfl
theorem msgs_zero (k : UInt8) (s m : ByteArray) (h : 0 < (msg k s ++ m).size) : (msg k s ++ m)[0] = k := by
  rw [get_toList]; simp [ByteArray.data_append, msg]
theorem msgs_one (k : UInt8) (s m : ByteArray) (h : 1 < (msg k s ++ m).size) : (msg k s ++ m)[1] = UInt8.ofNat s.size := by
  rw [get_toList]; simp [ByteArray.data_append, msg]
theorem ba_ext {a b : ByteArray} (h : a.data.toList = b.data.toList) : a = b := by
  apply ByteArray.ext; exact Array.ext' h
theorem msgs_text (k : UInt8) (s m : ByteArray) : (msg k s ++ m).extract 2 (2 + s.size) = s := by
  apply ba_ext
  rw [ByteArray.data_extract, Array.toList_extract, ByteArray.data_append, Array.toList_append, msg_toList]
  simp
theorem part_size (k : UInt8) (s : ByteArray) {p : Nat} (h : p < s.size + 2) : ((msg k s).extract 0 p).size = p := by
  rw [ByteArray.size_extract, msg_size]; omega
theorem part_one (k : UInt8) (s : ByteArray) {p : Nat} (h : 1 < ((msg k s).extract 0 p).size) : ((msg k s).extract 0 p)[1] = UInt8.ofNat s.size := by
  have e : ((msg k s).extract 0 p).data.toList = (k :: UInt8.ofNat s.size :: s.data.toList).take p := by
    rw [ByteArray.data_extract, Array.toList_extract, msg_toList]; simp
  rw [get_toList]; simp only [e, List.getElem_take, List.getElem_cons_succ, List.getElem_cons_zero]

end Go.Proofs.YtpbaobmegomfpaaDoor
