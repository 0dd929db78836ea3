/-
  Plain mathematics: ordered lists of pairs.
-/
import Derived.Test.YtpbaobmegomfpaaDoorBackM
namespace Go.Proofs.YtpbaobmegomfpaaDoor
open Go.RowKit
set_option linter.unusedVariables false

theorem eqB_false {a b : ByteArray} : eqB a b = false ↔ a ≠ b := by
  rw [← Bool.not_eq_true, eqB_iff]
theorem risingB_iff : ∀ {l : PL}, risingB l = true ↔ ∀ j (h : j + 1 < l.length), ltB l[j].1 l[j + 1].1 = true
  | [] => by simp [risingB]
  | [p] => by simp [risingB]
  | p :: q :: l => by
    unfold risingB
    rw [Bool.and_eq_true, risingB_iff]
    constructor
    · rintro ⟨h0, h1⟩ j hj
      cases j with
      | zero => exact h0
      | succ j => exact h1 j (by simpa using hj)
    · intro h
      exact ⟨h 0 (by simp), fun j hj => h (j + 1) (by simpa using hj)⟩
theorem rising_tail {p : ByteArray × ByteArray} {l : PL} (h : risingB (p :: l) = true) : risingB l = true := by
  cases l with
  | nil => rfl
  | cons q l => unfold risingB at h; rw [Bool.and_eq_true] at h; exact h.2
theorem rising_head : ∀ {l : PL} {p : ByteArray × ByteArray}, risingB (p :: l) = true → ∀ q ∈ l, ltB p.1 q.1 = true
  | q0 :: l, p, h, q, hq => by
    have h' := h
    unfold risingB at h'
    rw [Bool.and_eq_true] at h'
    rcases List.mem_cons.1 hq with rfl | hq
    · exact h'.1
    · exact ltB_trans h'.1 (rising_head h'.2 q hq)
theorem rising_cons {l : PL} {p : ByteArray × ByteArray} (h : risingB l = true) (hp : ∀ q ∈ l, ltB p.1 q.1 = true) : risingB (p :: l) = true := by
  cases l with
  | nil => rfl
  | cons q l => unfold risingB; rw [hp q (by simp), h]; rfl
theorem rising_lt {l : PL} (h : risingB l = true) : ∀ i j (hi : i < j) (hj : j < l.length), ltB (l[i]'(by omega)).1 l[j].1 = true := by
  intro i j hi hj
  induction j with
  | zero => omega
  | succ j ih =>
    have h1 := (risingB_iff.1 h) j hj
    by_cases e : i = j
    · subst e; exact h1
    · exact ltB_trans (ih (by omega) (by omega)) h1

theorem pairsB_yes {l : PL} {most : Nat} {kind : Int} (h1 : ∀ j (h : j < l.length), checkE kind l[j].1 l[j].2 = 0) (h2 : ∀ j (h : j + 1 < l.length), ltB l[j].1 l[j + 1].1 = true) (h3 : l.length ≤ most) : pairsB l most kind = true := by
  unfold pairsB
  rw [risingB_iff.2 h2, decide_eq_true h3, Bool.and_true, Bool.and_true, List.all_eq_true]
  intro p hp
  obtain ⟨j, hj, rfl⟩ := List.getElem_of_mem hp
  exact decide_eq_true (h1 j hj)
theorem pairsB_long {l : PL} {most : Nat} {kind : Int} (h : ¬ l.length ≤ most) : pairsB l most kind = false := by
  unfold pairsB; rw [decide_eq_false h]; simp
theorem pairsB_bad {l : PL} {most : Nat} {kind : Int} {j : Nat} (hj : j < l.length) (h : checkE kind l[j].1 l[j].2 ≠ 0) : pairsB l most kind = false := by
  unfold pairsB
  have : (l.all fun p => decide (checkE kind p.1 p.2 = 0)) = false := by
    rw [List.all_eq_false]
    exact ⟨l[j], List.getElem_mem hj, by simpa using h⟩
  rw [this]; rfl
theorem pairsB_fall {l : PL} {most : Nat} {kind : Int} {j : Nat} (hj : j + 1 < l.length) (h : ltB l[j].1 l[j + 1].1 = false) : pairsB l most kind = false := by
  unfold pairsB
  have : risingB l = false := by
    rw [← Bool.not_eq_true]
    intro hr
    have := risingB_iff.1 hr j hj
    rw [h] at this; cases this
  rw [this]; simp
theorem pairsB_rising {l : PL} {most : Nat} {kind : Int} (h : pairsB l most kind = true) : risingB l = true ∧ l.length ≤ most ∧ ∀ p ∈ l, checkE kind p.1 p.2 = 0 := by
  unfold pairsB at h
  simp only [Bool.and_eq_true, decide_eq_true_eq, List.all_eq_true] at h
  exact ⟨h.2.1, h.2.2, h.1⟩

/-- one pair more in an ordered list -/
def insL : PL → ByteArray → ByteArray → PL
  | [], k, v => [(k, v)]
  | p :: l, k, v => if ltB p.1 k then p :: insL l k v else if eqB p.1 k then (k, v) :: l else (k, v) :: p :: l
theorem plusGo_done : ∀ {l : PL} {k v : ByteArray}, (∀ q ∈ l, ltB k q.1 = true) → plusGo k v true l = l
  | [], _, _, _ => rfl
  | p :: l, k, v, h => by
    unfold plusGo
    have hp := h p (by simp)
    have : eqB p.1 k = false := eqB_false.2 (fun e => ltB_ne hp e.symm)
    rw [this, Bool.true_or, plusGo_done (fun q hq => h q (by simp [hq]))]
    rfl
theorem plus_ins : ∀ {l : PL} {k v : ByteArray}, risingB l = true → plusL l k v = insL l k v
  | [], _, _, _ => rfl
  | p :: l, k, v, h => by
    unfold plusL plusGo insL
    cases h1 : ltB p.1 k
    · have hd : ∀ q ∈ l, ltB k q.1 = true := fun q hq => by
        cases h2 : eqB p.1 k
        · have : ltB k p.1 = true := by
            cases h3 : ltB k p.1
            · exact absurd (ltB_total h1 h3) (eqB_false.1 h2)
            · rfl
          exact ltB_trans this (rising_head h q hq)
        · rw [← eqB_iff.1 h2]; exact rising_head h q hq
      rw [Bool.false_or, Bool.not_false, plusGo_done hd]
      cases h2 : eqB p.1 k <;> simp
    · have : eqB p.1 k = false := eqB_false.2 (ltB_ne h1)
      rw [this, Bool.false_or]
      have ih := plus_ins (k := k) (v := v) (rising_tail h)
      unfold plusL at ih
      simp [ih]
theorem ins_mem : ∀ {l : PL} {k v : ByteArray} {q : ByteArray × ByteArray}, q ∈ insL l k v → q = (k, v) ∨ q ∈ l
  | [], k, v, q, h => by simpa [insL] using h
  | p :: l, k, v, q, h => by
    unfold insL at h
    split at h
    · rcases List.mem_cons.1 h with rfl | h
      · exact .inr (by simp)
      · rcases ins_mem h with h | h
        · exact .inl h
        · exact .inr (by simp [h])
    · split at h
      · rcases List.mem_cons.1 h with rfl | h
        · exact .inl rfl
        · exact .inr (by simp [h])
      · rcases List.mem_cons.1 h with rfl | h
        · exact .inl rfl
        · exact .inr h
theorem ins_rising : ∀ {l : PL} {k v : ByteArray}, risingB l = true → risingB (insL l k v) = true
  | [], _, _, _ => rfl
  | p :: l, k, v, h => by
    unfold insL
    cases h1 : ltB p.1 k
    · rw [if_neg (by simp)]
      cases h2 : eqB p.1 k
      · rw [if_neg (by simp)]
        have hk : ltB k p.1 = true := by
          cases h3 : ltB k p.1
          · exact absurd (ltB_total h1 h3) (eqB_false.1 h2)
          · rfl
        exact rising_cons h (fun q hq => by
          rcases List.mem_cons.1 hq with rfl | hq
          · exact hk
          · exact ltB_trans hk (rising_head h q hq))
      · rw [if_pos rfl]
        exact rising_cons (rising_tail h) (fun q hq => by show ltB k q.1 = true; rw [← eqB_iff.1 h2]; exact rising_head h q hq)
    · rw [if_pos rfl]
      refine rising_cons (ins_rising (rising_tail h)) (fun q hq => ?_)
      rcases ins_mem hq with rfl | hq
      · exact h1
      · exact rising_head h q hq
theorem atL_yes {p : ByteArray × ByteArray} {l : PL} {k : ByteArray} (h : eqB p.1 k = true) : atL (p :: l) k = some p.2 := by rw [atL, if_pos h]
theorem atL_no {p : ByteArray × ByteArray} {l : PL} {k : ByteArray} (h : eqB p.1 k = false) : atL (p :: l) k = atL l k := by rw [atL, if_neg (by simp [h])]
theorem insL_lt {p : ByteArray × ByteArray} {l : PL} {k v : ByteArray} (h : ltB p.1 k = true) : insL (p :: l) k v = p :: insL l k v := by rw [insL, if_pos h]
theorem insL_eq {p : ByteArray × ByteArray} {l : PL} {k v : ByteArray} (h1 : ltB p.1 k = false) (h : eqB p.1 k = true) : insL (p :: l) k v = (k, v) :: l := by rw [insL, if_neg (by simp [h1]), if_pos h]
theorem insL_gt {p : ByteArray × ByteArray} {l : PL} {k v : ByteArray} (h1 : ltB p.1 k = false) (h : eqB p.1 k = false) : insL (p :: l) k v = (k, v) :: p :: l := by rw [insL, if_neg (by simp [h1]), if_neg (by simp [h])]
theorem at_ins : ∀ {l : PL} {k v k' : ByteArray}, risingB l = true → atL (insL l k v) k' = if eqB k k' then some v else atL l k'
  | [], k, v, k', _ => by simp [insL, atL]
  | p :: l, k, v, k', h => by
    cases h1 : ltB p.1 k
    · cases h2 : eqB p.1 k
      · rw [insL_gt h1 h2, atL]
      · rw [insL_eq h1 h2]
        cases h3 : eqB k k'
        · rw [atL_no h3, atL_no (by rw [eqB_iff.1 h2]; exact h3), if_neg (by simp)]
        · rw [atL_yes h3, if_pos rfl]
    · rw [insL_lt h1]
      cases h3 : eqB p.1 k'
      · rw [atL_no h3, atL_no h3, at_ins (rising_tail h)]
      · have : eqB k k' = false := eqB_false.2 (fun e => ltB_ne h1 (by rw [eqB_iff.1 h3, e]))
        rw [atL_yes h3, atL_yes h3, this, if_neg (by simp)]
theorem atL_none {l : PL} {k : ByteArray} (hd : ∀ q ∈ l, eqB q.1 k = false) : atL l k = none := by
  induction l with
  | nil => rfl
  | cons q l ih => rw [atL_no (hd q (by simp))]; exact ih (fun q hq => hd q (by simp [hq]))
theorem lt_of_not {p k : ByteArray} (h1 : ltB p k = false) (h2 : eqB p k = false) : ltB k p = true := by
  cases h3 : ltB k p
  · exact absurd (ltB_total h1 h3) (eqB_false.1 h2)
  · rfl
theorem ins_length : ∀ {l : PL} {k v : ByteArray}, risingB l = true → (insL l k v).length = if (atL l k).isSome then l.length else l.length + 1
  | [], _, _, _ => rfl
  | p :: l, k, v, h => by
    cases h1 : ltB p.1 k
    · cases h2 : eqB p.1 k
      · have hk := lt_of_not h1 h2
        rw [insL_gt h1 h2, atL_no h2, atL_none (fun q hq => eqB_false.2 (fun e => ltB_ne (ltB_trans hk (rising_head h q hq)) e.symm))]
        simp
      · rw [insL_eq h1 h2, atL_yes h2]; simp
    · rw [insL_lt h1, atL_no (eqB_false.2 (ltB_ne h1)), List.length_cons, ins_length (rising_tail h), List.length_cons]
      split <;> rfl
theorem atL_mem : ∀ {l : PL} {k v : ByteArray}, atL l k = some v → (k, v) ∈ l
  | p :: l, k, v, h => by
    unfold atL at h
    split at h
    · rename_i h1
      have := eqB_iff.1 h1
      simp only [Option.some.injEq] at h
      subst this h
      simp
    · exact List.mem_cons_of_mem _ (atL_mem h)
theorem atL_of_mem : ∀ {l : PL} {p : ByteArray × ByteArray}, p ∈ l → (atL l p.1).isSome = true
  | q :: l, p, h => by
    unfold atL
    cases h1 : eqB q.1 p.1
    · rw [if_neg (by simp)]
      rcases List.mem_cons.1 h with rfl | h
      · rw [eqB_self] at h1; cases h1
      · exact atL_of_mem h
    · rw [if_pos rfl]; rfl

end Go.Proofs.YtpbaobmegomfpaaDoor
