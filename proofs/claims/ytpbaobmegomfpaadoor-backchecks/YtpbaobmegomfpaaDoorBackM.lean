/-
  Plain mathematics: sessions of a server over rows, as the document has them (nothing of the program is imported).
-/
import Derived.Test.YtpbaobmegomfpaaDoorMath3
namespace Go.Proofs.YtpbaobmegomfpaaDoor
open Go.RowKit
set_option linter.unusedVariables false

/-- pairs, as lists -/
abbrev PL := List (ByteArray × ByteArray)
/-- are two strings one, and is one less, byte by byte? -/
def eqB (a b : ByteArray) : Bool := a.toList == b.toList
def ltB (a b : ByteArray) : Bool := Op.bytesLess a.toList b.toList
theorem eqB_iff {a b : ByteArray} : eqB a b = true ↔ a = b := by
  unfold eqB
  rw [beq_iff_eq, Lib.toList_data, Lib.toList_data]
  exact ⟨fun h => ba_ext h, fun h => by rw [h]⟩
theorem eqB_self (a : ByteArray) : eqB a a = true := eqB_iff.2 rfl
theorem bl_irrefl : ∀ l : List UInt8, Op.bytesLess l l = false
  | [] => rfl
  | a :: l => by simp [Op.bytesLess, bl_irrefl l]
theorem bl_trans : ∀ {x y z : List UInt8}, Op.bytesLess x y = true → Op.bytesLess y z = true → Op.bytesLess x z = true
  | [], [], _, h, _ => by simp [Op.bytesLess] at h
  | [], b :: y, [], _, h => by simp [Op.bytesLess] at h
  | [], b :: y, c :: z, _, _ => by simp [Op.bytesLess]
  | a :: x, [], _, h, _ => by simp [Op.bytesLess] at h
  | a :: x, b :: y, [], _, h => by simp [Op.bytesLess] at h
  | a :: x, b :: y, c :: z, h1, h2 => by
    simp only [Op.bytesLess, Bool.or_eq_true, decide_eq_true_eq, Bool.and_eq_true, beq_iff_eq] at h1 h2 ⊢
    rcases h1 with h1 | ⟨rfl, h1⟩
    · rcases h2 with h2 | ⟨rfl, h2⟩
      · exact .inl (UInt8.lt_trans h1 h2)
      · exact .inl h1
    · rcases h2 with h2 | ⟨rfl, h2⟩
      · exact .inl h2
      · exact .inr ⟨rfl, bl_trans h1 h2⟩
theorem bl_total : ∀ {x y : List UInt8}, Op.bytesLess x y = false → Op.bytesLess y x = false → x = y
  | [], [], _, _ => rfl
  | [], b :: y, h, _ => by simp [Op.bytesLess] at h
  | a :: x, [], _, h => by simp [Op.bytesLess] at h
  | a :: x, b :: y, h1, h2 => by
    simp only [Op.bytesLess, Bool.or_eq_false_iff, decide_eq_false_iff_not, Bool.and_eq_false_iff, beq_eq_false_iff_ne] at h1 h2
    have e : a = b := by
      apply UInt8.toNat_inj.1
      have h3 := h1.1
      have h4 := h2.1
      rw [UInt8.lt_iff_toNat_lt] at h3 h4
      omega
    subst e
    rw [bl_total (h1.2.resolve_left (by simp)) (h2.2.resolve_left (by simp))]
theorem ltB_irrefl (a : ByteArray) : ltB a a = false := bl_irrefl _
theorem ltB_trans {a b c : ByteArray} (h1 : ltB a b = true) (h2 : ltB b c = true) : ltB a c = true := bl_trans h1 h2
theorem ltB_total {a b : ByteArray} (h1 : ltB a b = false) (h2 : ltB b a = false) : a = b := by
  have := bl_total h1 h2
  rw [Lib.toList_data, Lib.toList_data] at this
  exact ba_ext this
theorem ltB_ne {a b : ByteArray} (h : ltB a b = true) : a ≠ b := fun e => by rw [e, ltB_irrefl] at h; cases h
theorem ltB_asymm {a b : ByteArray} (h : ltB a b = true) : ltB b a = false := by
  cases e : ltB b a
  · rfl
  · have := ltB_trans h e; rw [ltB_irrefl] at this; cases this

/-- the value of a key -/
def atL : PL → ByteArray → Option ByteArray
  | [], _ => none
  | p :: l, k => if eqB p.1 k then some p.2 else atL l k
/-- one pair more, by its key, or in the place of the one with that key -/
def plusGo (k v : ByteArray) : Bool → PL → PL
  | done, [] => if done then [] else [(k, v)]
  | done, p :: l => (if !done && !ltB p.1 k then [(k, v)] else []) ++ ((if eqB p.1 k then [] else [p]) ++ plusGo k v (done || !ltB p.1 k) l)
def plusL (l : PL) (k v : ByteArray) : PL := plusGo k v false l
/-- the keys are strictly increasing -/
def risingB : PL → Bool
  | [] => true
  | [_] => true
  | p :: q :: l => ltB p.1 q.1 && risingB (q :: l)
/-- P2.1: each pair is good for the kind, the keys rise, there are at most so many -/
def pairsB (l : PL) (most : Nat) (kind : Int) : Bool := (l.all fun p => decide (checkE kind p.1 p.2 = 0)) && (risingB l && decide (l.length ≤ most))

/-- a session, a world -/
structure Sess where
  st : Int
  set : PL
  prep : PL
  sav : PL
  wr : PL
structure Wd where
  rows : PL
  ss : List Sess

end Go.Proofs.YtpbaobmegomfpaaDoor
