/-
  Plain mathematics: the place of a key in an ordered list.
-/
import Derived.Test.YtpbaobmegomfpabBackM2
namespace Go.Proofs.Ytpbaobmegomfpab
open Go.RowKit
set_option linter.unusedVariables false

/-- where a key is, or where it belongs -/
def posL : PL → ByteArray → Nat
  | [], _ => 0
  | p :: l, k => if ltB p.1 k then posL l k + 1 else 0
/-- is it there? -/
def fndL (l : PL) (k : ByteArray) : Bool := (atL l k).isSome
theorem posL_lt {p : ByteArray × ByteArray} {l : PL} {k : ByteArray} (h : ltB p.1 k = true) : posL (p :: l) k = posL l k + 1 := by rw [posL, if_pos h]
theorem posL_ge {p : ByteArray × ByteArray} {l : PL} {k : ByteArray} (h : ltB p.1 k = false) : posL (p :: l) k = 0 := by rw [posL, if_neg (by simp [h])]
theorem posL_le : ∀ (l : PL) (k : ByteArray), posL l k ≤ l.length
  | [], _ => Nat.le_refl _
  | p :: l, k => by
    have := posL_le l k
    unfold posL; split <;> simp <;> omega
theorem pos_before : ∀ {l : PL} {k : ByteArray} {j : Nat} (hj : j < l.length), j < posL l k → ltB l[j].1 k = true
  | p :: l, k, j, hj, h => by
    cases e : ltB p.1 k
    · rw [posL_ge e] at h; omega
    · rw [posL_lt e] at h
      cases j with
      | zero => exact e
      | succ j => exact pos_before (l := l) (by simpa using hj) (by omega)
theorem pos_after : ∀ {l : PL} {k : ByteArray} {j : Nat}, risingB l = true → (hj : j < l.length) → posL l k ≤ j → ltB l[j].1 k = false
  | p :: l, k, j, hr, hj, h => by
    cases e : ltB p.1 k
    · cases j with
      | zero => exact e
      | succ j =>
        have hj' : j < l.length := by simpa using hj
        have h1 := rising_head hr l[j] (List.getElem_mem hj')
        show ltB l[j].1 k = false
        cases e2 : ltB l[j].1 k
        · rfl
        · rw [ltB_trans h1 e2] at e; cases e
    · rw [posL_lt e] at h
      cases j with
      | zero => omega
      | succ j => exact pos_after (l := l) (rising_tail hr) (by simpa using hj) (by omega)
theorem fnd_none : ∀ {l : PL} {k : ByteArray}, risingB l = true → l.length ≤ posL l k → fndL l k = false
  | [], _, _, _ => rfl
  | p :: l, k, hr, h => by
    cases e : ltB p.1 k
    · rw [posL_ge e] at h; simp at h
    · rw [posL_lt e] at h
      unfold fndL
      rw [atL_no (eqB_false.2 (ltB_ne e))]
      exact fnd_none (rising_tail hr) (by simpa using h)
theorem fnd_at : ∀ {l : PL} {k : ByteArray}, risingB l = true → (h : posL l k < l.length) → fndL l k = eqB (l[posL l k]).1 k ∧ (fndL l k = true → atL l k = some (l[posL l k]).2)
  | p :: l, k, hr, h => by
    cases e : ltB p.1 k
    · have hp := posL_ge (l := l) e
      simp only [hp, List.getElem_cons_zero]
      cases e2 : eqB p.1 k
      · have hk := lt_of_not e e2
        have : fndL (p :: l) k = false := by
          unfold fndL
          rw [atL_no e2, atL_none (fun q hq => eqB_false.2 (fun e' => ltB_ne (ltB_trans hk (rising_head hr q hq)) e'.symm))]; rfl
        exact ⟨this, fun h => by rw [this] at h; cases h⟩
      · have : fndL (p :: l) k = true := by unfold fndL; rw [atL_yes e2]; rfl
        exact ⟨this, fun _ => atL_yes e2⟩
    · have hp := posL_lt (l := l) e
      have e2 : eqB p.1 k = false := eqB_false.2 (ltB_ne e)
      have hl : posL l k < l.length := by rw [hp] at h; simpa using h
      obtain ⟨h1, h2⟩ := fnd_at (rising_tail hr) hl
      have hf : fndL (p :: l) k = fndL l k := by unfold fndL; rw [atL_no e2]
      simp only [hp, List.getElem_cons_succ]
      exact ⟨hf.trans h1, fun h => by rw [atL_no e2]; exact h2 (hf ▸ h)⟩
theorem fnd_pos {l : PL} {k : ByteArray} (hr : risingB l = true) (h : fndL l k = true) : posL l k < l.length := by
  apply Classical.byContradiction
  intro hn
  rw [fnd_none hr (by omega)] at h; cases h
theorem ins_found : ∀ {l : PL} {k v : ByteArray}, risingB l = true → fndL l k = true → insL l k v = l.set (posL l k) (k, v)
  | [], _, _, _, h => by cases h
  | p :: l, k, v, hr, h => by
    cases e : ltB p.1 k
    · rw [posL_ge e]
      have hl := fnd_at hr (by rw [posL_ge e]; simp)
      rw [h] at hl
      simp only [posL_ge (l := l) e, List.getElem_cons_zero] at hl
      rw [insL_eq e hl.1.symm, List.set_cons_zero]
    · rw [posL_lt e, insL_lt e, List.set_cons_succ, ins_found (rising_tail hr)]
      unfold fndL at h ⊢
      rwa [atL_no (eqB_false.2 (ltB_ne e))] at h
theorem ins_new : ∀ {l : PL} {k v : ByteArray}, risingB l = true → fndL l k = false → insL l k v = l.take (posL l k) ++ (k, v) :: l.drop (posL l k)
  | [], _, _, _, _ => rfl
  | p :: l, k, v, hr, h => by
    cases e : ltB p.1 k
    · rw [posL_ge e]
      have hl := fnd_at hr (by rw [posL_ge e]; simp)
      rw [h] at hl
      simp only [posL_ge (l := l) e, List.getElem_cons_zero] at hl
      rw [insL_gt e hl.1.symm]; rfl
    · rw [posL_lt e, insL_lt e, ins_new (rising_tail hr)]
      · rfl
      · unfold fndL at h ⊢
        rwa [atL_no (eqB_false.2 (ltB_ne e))] at h

end Go.Proofs.Ytpbaobmegomfpab
