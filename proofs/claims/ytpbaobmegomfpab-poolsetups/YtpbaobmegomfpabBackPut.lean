/-
  Plain mathematics: a Put in a world that may be.
-/
import Derived.Test.YtpbaobmegomfpabBackDo
namespace Go.Proofs.Ytpbaobmegomfpab
open Go.RowKit
set_option linter.unusedVariables false

/-- an ordered list whose keys are all in another is no longer -/
theorem sub_len : ∀ {R l : PL}, risingB R = true → risingB l = true → (∀ p ∈ l, fndL R p.1 = true) → l.length ≤ R.length
  | [], [], _, _, _ => Nat.le_refl _
  | [], p :: l, _, _, h => by have := h p (by simp); cases this
  | q :: R, [], _, _, _ => by simp
  | q :: R, p :: l, hR, hl, h => by
    have tail : ∀ x, ltB q.1 x = true → fndL (q :: R) x = true → fndL R x = true := fun x hx hf => by
      unfold fndL at hf ⊢
      rwa [atL_no (eqB_false.2 (ltB_ne hx))] at hf
    have hp := h p (by simp)
    cases e : eqB q.1 p.1
    · -- the head of R is before p
      have hqp : ltB q.1 p.1 = true := by
        unfold fndL at hp
        rw [atL_no e] at hp
        obtain ⟨v, hv⟩ := Option.isSome_iff_exists.1 hp
        exact rising_head hR (p.1, v) (atL_mem hv)
      have := sub_len (R := R) (l := p :: l) (rising_tail hR) hl (fun x hx => by
        refine tail x.1 ?_ (h x hx)
        rcases List.mem_cons.1 hx with rfl | hx
        · exact hqp
        · exact ltB_trans hqp (rising_head hl x hx))
      simp only [List.length_cons] at this ⊢; omega
    · have heq := eqB_iff.1 e
      have := sub_len (R := R) (l := l) (rising_tail hR) (rising_tail hl) (fun x hx => tail x.1 (by rw [heq]; exact rising_head hl x hx) (h x (by simp [hx])))
      simp only [List.length_cons]; omega
theorem fnd_ins {l : PL} {k v k' : ByteArray} (h : risingB l = true) : fndL (insL l k v) k' = (eqB k k' || fndL l k') := by
  unfold fndL
  rw [at_ins h]
  cases eqB k k' <;> simp
theorem sub_less {R l : PL} {k : ByteArray} (hR : risingB R = true) (hl : risingB l = true) (h : ∀ p ∈ l, fndL R p.1 = true) (hk : fndL R k = true) (hn : fndL l k = false) : l.length < R.length := by
  have h1 := sub_len (l := insL l k ⟨#[]⟩) hR (ins_rising hl) (fun p hp => by
    rcases ins_mem hp with rfl | hp
    · exact hk
    · exact h p hp)
  have hn' : ¬ (atL l k).isSome = true := by unfold fndL at hn; simp [hn]
  rw [ins_length hl, if_neg hn'] at h1
  omega
theorem allF_rising {R : PL} (h : risingB R = true) : ∀ l : PL, risingB (allF R l) = true := by
  intro l
  unfold allF
  induction l generalizing R with
  | nil => exact h
  | cons p l ih => rw [List.foldl_cons]; exact ih (by rw [plus_ins h]; exact ins_rising h)
theorem allF_fnd {R : PL} {k : ByteArray} (h : risingB R = true) : ∀ l : PL, fndL (allF R l) k = (fndL R k || fndL l k) := by
  intro l
  unfold allF
  induction l generalizing R with
  | nil => simp [fndL, atL]
  | cons p l ih =>
    rw [List.foldl_cons, ih (by rw [plus_ins h]; exact ins_rising h), plus_ins h, fnd_ins h]
    have : fndL (p :: l) k = (eqB p.1 k || fndL l k) := by
      unfold fndL
      cases e : eqB p.1 k
      · rw [atL_no e]; simp
      · rw [atL_yes e]; simp
    rw [this]
    cases eqB p.1 k <;> cases fndL R k <;> simp
theorem fnd_of_mem {l : PL} {p : ByteArray × ByteArray} (h : p ∈ l) : fndL l p.1 = true := atL_of_mem h

section
variable {W : Wd} (h : WorldOk W)
include h
theorem all_rising : risingB (allL W) = true := allF_rising (pairsB_rising h.rows).1 _
theorem all_rows {p : ByteArray × ByteArray} (hp : p ∈ W.rows) : fndL (allL W) p.1 = true := by
  unfold allL; rw [allF_fnd (pairsB_rising h.rows).1, fnd_of_mem hp]; rfl
theorem all_wr {i : Nat} (hi : i < W.ss.length) {p : ByteArray × ByteArray} (hp : p ∈ W.ss[i].wr) : fndL (allL W) p.1 = true := by
  unfold allL
  rw [allF_fnd (pairsB_rising h.rows).1, fnd_of_mem (List.mem_flatMap.2 ⟨W.ss[i], List.getElem_mem hi, hp⟩)]
  simp
theorem held_cnt {i : Nat} (hi : i < W.ss.length) (key : ByteArray) : heldB W.ss i key = (decide (0 < cntL (W.ss.flatMap (·.wr)) key) && !fndL W.ss[i].wr key) := by
  have hr : ∀ k (hk : k < W.ss.length), risingB W.ss[k].wr = true := fun k hk => (pairsB_rising (h.sess k hk).wr).1
  cases e : heldB W.ss i key
  · symm
    rw [Bool.and_eq_false_iff]
    by_cases hc : 0 < cntL (W.ss.flatMap (·.wr)) key
    · right
      obtain ⟨k, hk, h1⟩ := cnt_pos (ss := W.ss) (key := key) hc
      have hs := (some_cnt (hr k hk)).1 h1
      by_cases hki : k = i
      · subst hki; unfold fndL; rw [hs]; rfl
      · rw [heldB_yes hk hs (by omega)] at e; cases e
    · left; exact decide_eq_false hc
  · obtain ⟨k, hk, hs, hne⟩ := heldB_iff.1 e
    have h1 := (some_cnt (hr k hk)).2 hs
    have h2 := cnt_one (key := key) hk
    have h3 : fndL W.ss[i].wr key = false := by
      cases e2 : fndL W.ss[i].wr key
      · rfl
      · obtain ⟨v, hv⟩ := Option.isSome_iff_exists.1 e2
        have := h.apart i hi _ (atL_mem hv)
        rw [e] at this; cases this
    rw [h3, decide_eq_true (by omega)]; rfl
/-- there is room in the Writes -/
theorem room_wr {i : Nat} (hi : i < W.ss.length) {key : ByteArray} (hf : ¬ (fndL (allL W) key = false ∧ 100 ≤ (allL W).length)) : fndL W.ss[i].wr key = true ∨ W.ss[i].wr.length < 100 := by
  cases e : fndL W.ss[i].wr key
  · right
    have hr := (pairsB_rising (h.sess i hi).wr).1
    cases e2 : fndL (allL W) key
    · have := sub_len (all_rising h) hr (fun p hp => all_wr h hi hp)
      have h3 : ¬ 100 ≤ (allL W).length := fun h3 => hf ⟨e2, h3⟩
      omega
    · have := sub_less (all_rising h) hr (fun p hp => all_wr h hi hp) e2 e
      have := h.all
      omega
  · exact .inl rfl
/-- there is room in the Rows -/
theorem room_rows {key : ByteArray} (hf : ¬ (fndL (allL W) key = false ∧ 100 ≤ (allL W).length)) : fndL W.rows key = true ∨ W.rows.length < 100 := by
  cases e : fndL W.rows key
  · right
    have hr := (pairsB_rising h.rows).1
    cases e2 : fndL (allL W) key
    · have := sub_len (all_rising h) hr (fun p hp => all_rows h hp)
      have h3 : ¬ 100 ≤ (allL W).length := fun h3 => hf ⟨e2, h3⟩
      omega
    · have := sub_less (all_rising h) hr (fun p hp => all_rows h hp) e2 e
      have := h.all
      omega
  · exact .inl rfl
end
end Go.Proofs.Ytpbaobmegomfpab
