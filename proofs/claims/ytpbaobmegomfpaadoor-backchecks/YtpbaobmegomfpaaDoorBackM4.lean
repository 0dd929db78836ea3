/-
  Plain mathematics: that no row has two writers, by counting.
-/
import Derived.Test.YtpbaobmegomfpaaDoorBackMap
namespace Go.Proofs.YtpbaobmegomfpaaDoor
open Go.RowKit
set_option linter.unusedVariables false

theorem cntL_rising : ∀ {l : PL} {key : ByteArray}, risingB l = true → cntL l key = if (atL l key).isSome then 1 else 0
  | [], _, _ => rfl
  | p :: l, key, h => by
    rw [cntL_cons, cntL_rising (rising_tail h)]
    cases e : eqB p.1 key
    · rw [atL_no e]; simp
    · have : atL l key = none := atL_none (fun q hq => eqB_false.2 (fun e' => ltB_ne (rising_head h q hq) (by rw [eqB_iff.1 e, e'])))
      rw [atL_yes e, this]; rfl
theorem cnt_flat_cons (s : Sess) (ss : List Sess) (key : ByteArray) : cntL ((s :: ss).flatMap (·.wr)) key = cntL s.wr key + cntL (ss.flatMap (·.wr)) key := by
  rw [List.flatMap_cons, cntL_append]
theorem cnt_one : ∀ {ss : List Sess} {key : ByteArray} {i : Nat} (hi : i < ss.length), cntL ss[i].wr key ≤ cntL (ss.flatMap (·.wr)) key
  | s :: ss, key, 0, _ => by rw [cnt_flat_cons]; simp
  | s :: ss, key, i + 1, hi => by
    have := cnt_one (key := key) (ss := ss) (i := i) (by simpa using hi)
    rw [cnt_flat_cons]; simp only [List.getElem_cons_succ]; omega
theorem cnt_two : ∀ {ss : List Sess} {key : ByteArray} {i j : Nat} (hi : i < j) (hj : j < ss.length), cntL (ss[i]'(by omega)).wr key + cntL ss[j].wr key ≤ cntL (ss.flatMap (·.wr)) key
  | s :: ss, key, 0, j + 1, _, hj => by
    have := cnt_one (key := key) (ss := ss) (i := j) (by simpa using hj)
    rw [cnt_flat_cons]; simp only [List.getElem_cons_succ, List.getElem_cons_zero]; omega
  | s :: ss, key, i + 1, j + 1, hi, hj => by
    have := cnt_two (key := key) (ss := ss) (i := i) (j := j) (by omega) (by simpa using hj)
    rw [cnt_flat_cons]; simp only [List.getElem_cons_succ]; omega
theorem cnt_pos : ∀ {ss : List Sess} {key : ByteArray}, 1 ≤ cntL (ss.flatMap (·.wr)) key → ∃ i, ∃ hi : i < ss.length, 1 ≤ cntL ss[i].wr key
  | [], key, h => by simp [cntL] at h
  | s :: ss, key, h => by
    rw [cnt_flat_cons] at h
    by_cases h0 : 1 ≤ cntL s.wr key
    · exact ⟨0, by simp, h0⟩
    · obtain ⟨i, hi, h1⟩ := cnt_pos (ss := ss) (key := key) (by omega)
      exact ⟨i + 1, by simpa using hi, h1⟩
theorem cnt_more : ∀ {ss : List Sess} {key : ByteArray}, (∀ i (hi : i < ss.length), cntL ss[i].wr key ≤ 1) → 2 ≤ cntL (ss.flatMap (·.wr)) key → ∃ i j, ∃ (hi : i < ss.length) (hj : j < ss.length), i ≠ j ∧ 1 ≤ cntL ss[i].wr key ∧ 1 ≤ cntL ss[j].wr key
  | [], key, _, h => by simp [cntL] at h
  | s :: ss, key, h1, h => by
    rw [cnt_flat_cons] at h
    have h0 := h1 0 (by simp)
    simp only [List.getElem_cons_zero] at h0
    by_cases hs : 1 ≤ cntL s.wr key
    · obtain ⟨j, hj, h2⟩ := cnt_pos (ss := ss) (key := key) (by omega)
      exact ⟨0, j + 1, by simp, by simpa using hj, by omega, hs, h2⟩
    · obtain ⟨i, j, hi, hj, hne, h2, h3⟩ := cnt_more (ss := ss) (key := key) (fun i hi => h1 (i + 1) (by simpa using hi)) (by omega)
      exact ⟨i + 1, j + 1, by simpa using hi, by simpa using hj, by omega, h2, h3⟩
/-- each row has at most one writer -/
def cntOk (W : Wd) : Bool := (W.ss.flatMap (·.wr)).all fun p => decide (cntL (W.ss.flatMap (·.wr)) p.1 ≤ 1)
theorem cntOk_no {W : Wd} {key : ByteArray} (h : 1 < cntL (W.ss.flatMap (·.wr)) key) : cntOk W = false := by
  unfold cntOk
  rw [List.all_eq_false]
  have : ∃ p ∈ W.ss.flatMap (·.wr), eqB p.1 key = true := by
    have h' : 0 < ((W.ss.flatMap (·.wr)).filter fun p => eqB p.1 key).length := by unfold cntL at h; omega
    obtain ⟨p, hp⟩ := List.exists_mem_of_length_pos h'
    rw [List.mem_filter] at hp
    exact ⟨p, hp.1, hp.2⟩
  obtain ⟨p, hp, he⟩ := this
  refine ⟨p, hp, ?_⟩
  rw [eqB_iff.1 he]
  simp; omega
theorem cntOk_yes {W : Wd} (h : ∀ key, cntL (W.ss.flatMap (·.wr)) key ≤ 1) : cntOk W = true := by
  unfold cntOk
  rw [List.all_eq_true]
  intro p _
  exact decide_eq_true (h p.1)
theorem some_cnt {l : PL} {key : ByteArray} (hr : risingB l = true) : 1 ≤ cntL l key ↔ (atL l key).isSome = true := by
  rw [cntL_rising hr]
  cases (atL l key).isSome <;> simp
theorem cnt_rising_le {l : PL} {key : ByteArray} (hr : risingB l = true) : cntL l key ≤ 1 := by rw [cntL_rising hr]; split <;> omega
theorem cntOk_apart {W : Wd} (hr : ∀ i (hi : i < W.ss.length), risingB W.ss[i].wr = true) : cntOk W = apartB W.ss := by
  cases h : apartB W.ss
  · -- two sessions
    have : ¬ ∀ i (hi : i < W.ss.length), ∀ p ∈ W.ss[i].wr, heldB W.ss i p.1 = false := fun hn => by rw [apartB_iff.2 hn] at h; cases h
    apply Classical.byContradiction
    intro hc
    have hc : cntOk W = true := by cases e : cntOk W with | true => rfl | false => exact absurd e hc
    apply this
    intro i hi p hp
    cases e : heldB W.ss i p.1
    · rfl
    · obtain ⟨k, hk, hs, hne⟩ := heldB_iff.1 e
      have h1 := (some_cnt (hr k hk)).2 hs
      have h2 := (some_cnt (hr i hi)).2 (atL_of_mem hp)
      have h3 : 2 ≤ cntL (W.ss.flatMap (·.wr)) p.1 := by
        rcases Nat.lt_or_gt_of_ne (show k ≠ i by omega) with hlt | hlt
        · have := cnt_two (key := p.1) hlt hi; omega
        · have := cnt_two (key := p.1) hlt hk; omega
      rw [cntOk_no (key := p.1) (by omega)] at hc; cases hc
  · have ha := apartB_iff.1 h
    refine cntOk_yes fun key => ?_
    apply Classical.byContradiction
    intro hc
    obtain ⟨i, j, hi, hj, hne, h1, h2⟩ := cnt_more (key := key) (fun i hi => cnt_rising_le (hr i hi)) (show 2 ≤ cntL (W.ss.flatMap (·.wr)) key by omega)
    have s1 := (some_cnt (hr i hi)).1 h1
    have s2 := (some_cnt (hr j hj)).1 h2
    obtain ⟨v, hv⟩ := Option.isSome_iff_exists.1 s1
    have := ha i hi _ (atL_mem hv)
    rw [heldB_yes hj s2 (by omega)] at this
    cases this

end Go.Proofs.YtpbaobmegomfpaaDoor
