/-
  Plain mathematics: which worlds may be (P2.1).
-/
import Derived.Test.YtpbaobmegomfpaaDoorBackM2
namespace Go.Proofs.YtpbaobmegomfpaaDoor
open Go.RowKit
set_option linter.unusedVariables false

/-- P2.1: a session by itself -/
def sessB (s : Sess) : Bool :=
  inB 0 s.st 2 && (pairsB s.set 6 9 && (pairsB s.prep 6 11 && (pairsB s.sav 6 9 && (pairsB s.wr 100 10 && (!((s.st == 0) && decide (0 < s.sav.length)) && !((s.st != 1) && decide (0 < s.wr.length)))))))
/-- another session has the key in its Writes -/
def heldB (ss : List Sess) (me : Int) (key : ByteArray) : Bool := (List.range ss.length).any fun i => decide ((i : Int) ≠ me) && ((ss[i]?).any fun s => (atL s.wr key).isSome)
/-- no two sessions have the same key in their Writes -/
def apartB (ss : List Sess) : Bool := (List.range ss.length).all fun (i : Nat) => (ss[i]?).all fun s => s.wr.all fun p => !heldB ss i p.1
/-- those that there are, and those that are written -/
def allF (out : PL) (l : PL) : PL := l.foldl (fun a p => plusL a p.1 ⟨#[]⟩) out
def allL (W : Wd) : PL := allF W.rows (W.ss.flatMap (·.wr))
/-- P2.1 -/
def worldB (W : Wd) : Bool := (pairsB W.rows 100 10 && decide (W.ss.length ≤ 8)) && (W.ss.all sessB && (apartB W.ss && decide ((allL W).length ≤ 100)))

theorem heldB_yes {ss : List Sess} {me : Int} {key : ByteArray} {k : Nat} (hk : k < ss.length) (h : (atL ss[k].wr key).isSome = true) (hne : (k : Int) ≠ me) : heldB ss me key = true := by
  unfold heldB
  rw [List.any_eq_true]
  refine ⟨k, List.mem_range.2 hk, ?_⟩
  rw [List.getElem?_eq_getElem hk, decide_eq_true hne, Bool.true_and]
  exact h
theorem heldB_no {ss : List Sess} {me : Int} {key : ByteArray} (h : ∀ k (hk : k < ss.length), (atL ss[k].wr key).isSome = true → (k : Int) = me) : heldB ss me key = false := by
  unfold heldB
  rw [List.any_eq_false]
  intro k hk
  have hk := List.mem_range.1 hk
  rw [List.getElem?_eq_getElem hk]
  simp only [Bool.and_eq_true, decide_eq_true_eq, not_and]
  intro hne hs
  exact hne (h k hk hs)
theorem heldB_iff {ss : List Sess} {me : Int} {key : ByteArray} : heldB ss me key = true ↔ ∃ k, ∃ hk : k < ss.length, (atL ss[k].wr key).isSome = true ∧ (k : Int) ≠ me := by
  constructor
  · intro h
    apply Classical.byContradiction
    intro hn
    have : heldB ss me key = false := heldB_no (fun k hk hs => Classical.byContradiction fun hne => hn ⟨k, hk, hs, hne⟩)
    rw [h] at this; cases this
  · rintro ⟨k, hk, hs, hne⟩; exact heldB_yes hk hs hne
theorem apartB_iff {ss : List Sess} : apartB ss = true ↔ ∀ i (hi : i < ss.length), ∀ p ∈ ss[i].wr, heldB ss i p.1 = false := by
  unfold apartB
  rw [List.all_eq_true]
  constructor
  · intro h i hi p hp
    have := h i (List.mem_range.2 hi)
    rw [List.getElem?_eq_getElem hi] at this
    have := List.all_eq_true.1 this p hp
    simpa using this
  · intro h i hi
    have hi := List.mem_range.1 hi
    rw [List.getElem?_eq_getElem hi]
    show (ss[i].wr.all _) = true
    rw [List.all_eq_true]
    intro p hp
    rw [h i hi p hp]; rfl

theorem sessB_st {s : Sess} (h : inB 0 s.st 2 = false) : sessB s = false := by unfold sessB; rw [h]; rfl
theorem sessB_set {s : Sess} (h : pairsB s.set 6 9 = false) : sessB s = false := by unfold sessB; rw [h]; simp
theorem sessB_prep {s : Sess} (h : pairsB s.prep 6 11 = false) : sessB s = false := by unfold sessB; rw [h]; simp
theorem sessB_sav {s : Sess} (h : pairsB s.sav 6 9 = false) : sessB s = false := by unfold sessB; rw [h]; simp
theorem sessB_wr {s : Sess} (h : pairsB s.wr 100 10 = false) : sessB s = false := by unfold sessB; rw [h]; simp
theorem sessB_idle {s : Sess} (h1 : s.st = 0) (h2 : 0 < s.sav.length) : sessB s = false := by
  have e1 : (s.st == 0) = true := beq_iff_eq.2 h1
  unfold sessB; rw [e1, decide_eq_true h2]; simp
theorem sessB_tx {s : Sess} (h1 : s.st ≠ 1) (h2 : 0 < s.wr.length) : sessB s = false := by
  have e1 : (s.st != 1) = true := bne_iff_ne.2 h1
  unfold sessB; rw [e1, decide_eq_true h2]; simp
theorem sessB_ok {s : Sess} (h0 : inB 0 s.st 2 = true) (h1 : pairsB s.set 6 9 = true) (h2 : pairsB s.prep 6 11 = true) (h3 : pairsB s.sav 6 9 = true) (h4 : pairsB s.wr 100 10 = true) (h5 : ¬ (s.st = 0 ∧ 0 < s.sav.length)) (h6 : ¬ (s.st ≠ 1 ∧ 0 < s.wr.length)) : sessB s = true := by
  unfold sessB
  rw [h0, h1, h2, h3, h4]
  simp only [Bool.true_and, Bool.and_eq_true, Bool.not_eq_true', Bool.and_eq_false_iff, beq_eq_false_iff_ne, bne_eq_false_iff_eq, decide_eq_false_iff_not]
  refine ⟨?_, ?_⟩
  · by_cases e : s.st = 0
    · exact .inr (fun h => h5 ⟨e, h⟩)
    · exact .inl e
  · by_cases e : s.st = 1
    · exact .inl e
    · exact .inr (fun h => h6 ⟨e, h⟩)
structure SessOk (s : Sess) : Prop where
  lo : 0 ≤ s.st
  hi : s.st ≤ 2
  set : pairsB s.set 6 9 = true
  prep : pairsB s.prep 6 11 = true
  sav : pairsB s.sav 6 9 = true
  wr : pairsB s.wr 100 10 = true
  idle : s.st = 0 → s.sav = []
  tx : s.st ≠ 1 → s.wr = []
theorem sessB_iff {s : Sess} : sessB s = true ↔ SessOk s := by
  constructor
  · intro h
    have h0 : inB 0 s.st 2 = true := by cases e : inB 0 s.st 2 with | true => rfl | false => rw [sessB_st e] at h; cases h
    have h1 : pairsB s.set 6 9 = true := by cases e : pairsB s.set 6 9 with | true => rfl | false => rw [sessB_set e] at h; cases h
    have h2 : pairsB s.prep 6 11 = true := by cases e : pairsB s.prep 6 11 with | true => rfl | false => rw [sessB_prep e] at h; cases h
    have h3 : pairsB s.sav 6 9 = true := by cases e : pairsB s.sav 6 9 with | true => rfl | false => rw [sessB_sav e] at h; cases h
    have h4 : pairsB s.wr 100 10 = true := by cases e : pairsB s.wr 100 10 with | true => rfl | false => rw [sessB_wr e] at h; cases h
    have hi : 0 ≤ s.st ∧ s.st ≤ 2 := by
      unfold inB at h0; simpa using h0
    refine ⟨hi.1, hi.2, h1, h2, h3, h4, fun e => ?_, fun e => ?_⟩
    · by_cases hl : 0 < s.sav.length
      · rw [sessB_idle e hl] at h; cases h
      · exact List.length_eq_zero_iff.1 (by omega)
    · by_cases hl : 0 < s.wr.length
      · rw [sessB_tx e hl] at h; cases h
      · exact List.length_eq_zero_iff.1 (by omega)
  · intro h
    refine sessB_ok (inB_yes ⟨h.lo, h.hi⟩) h.set h.prep h.sav h.wr (fun e => ?_) (fun e => ?_)
    · rw [h.idle e.1] at e; simp at e
    · rw [h.tx e.1] at e; simp at e

theorem plusGo_len : ∀ (l : PL) (k v : ByteArray) (d : Bool), (plusGo k v d l).length ≤ l.length + (!d).toNat
  | [], k, v, d => by cases d <;> simp [plusGo]
  | p :: l, k, v, d => by
    have ih := plusGo_len l k v (d || !ltB p.1 k)
    unfold plusGo
    cases d <;> cases h1 : ltB p.1 k <;> cases h2 : eqB p.1 k <;> simp [h1] at ih ⊢ <;> omega
theorem plusL_len (l : PL) (k v : ByteArray) : (plusL l k v).length ≤ l.length + 1 := plusGo_len l k v false
theorem plusGo_mem : ∀ {l : PL} {k v : ByteArray} {d : Bool} {q : ByteArray × ByteArray}, q ∈ plusGo k v d l → q = (k, v) ∨ q ∈ l
  | [], k, v, d, q, h => by cases d <;> simp [plusGo] at h ⊢; exact h
  | p :: l, k, v, d, q, h => by
    unfold plusGo at h
    rw [List.mem_append, List.mem_append] at h
    rcases h with h | h | h
    · split at h
      · exact .inl (by simpa using h)
      · cases h
    · split at h
      · cases h
      · exact .inr (by simp at h; simp [h])
    · rcases plusGo_mem h with h | h
      · exact .inl h
      · exact .inr (by simp [h])
theorem plusL_mem {l : PL} {k v : ByteArray} {q : ByteArray × ByteArray} (h : q ∈ plusL l k v) : q = (k, v) ∨ q ∈ l := plusGo_mem h

theorem worldB_rows {W : Wd} (h : pairsB W.rows 100 10 = false) : worldB W = false := by unfold worldB; rw [h]; rfl
theorem worldB_many {W : Wd} (h : ¬ W.ss.length ≤ 8) : worldB W = false := by unfold worldB; rw [decide_eq_false h]; simp
theorem worldB_sess {W : Wd} {i : Nat} (hi : i < W.ss.length) (h : sessB W.ss[i] = false) : worldB W = false := by
  have : W.ss.all sessB = false := by
    rw [List.all_eq_false]; exact ⟨W.ss[i], List.getElem_mem hi, by simp [h]⟩
  unfold worldB; rw [this]; simp
theorem worldB_held {W : Wd} {i : Nat} (hi : i < W.ss.length) {p : ByteArray × ByteArray} (hp : p ∈ W.ss[i].wr) (h : heldB W.ss i p.1 = true) : worldB W = false := by
  have : apartB W.ss = false := by
    cases e : apartB W.ss
    · rfl
    · rw [apartB_iff.1 e i hi p hp] at h; cases h
  unfold worldB; rw [this]; simp
theorem worldB_last {W : Wd} (h1 : pairsB W.rows 100 10 = true) (h2 : W.ss.length ≤ 8) (h3 : ∀ i (hi : i < W.ss.length), sessB W.ss[i] = true) (h4 : ∀ i (hi : i < W.ss.length), ∀ p ∈ W.ss[i].wr, heldB W.ss i p.1 = false) : worldB W = decide ((allL W).length ≤ 100) := by
  have : W.ss.all sessB = true := by
    rw [List.all_eq_true]; intro s hs
    obtain ⟨i, hi, rfl⟩ := List.getElem_of_mem hs
    exact h3 i hi
  unfold worldB; rw [h1, decide_eq_true h2, this, apartB_iff.2 h4]; rfl
structure WorldOk (W : Wd) : Prop where
  rows : pairsB W.rows 100 10 = true
  many : W.ss.length ≤ 8
  sess : ∀ i (hi : i < W.ss.length), SessOk W.ss[i]
  apart : ∀ i (hi : i < W.ss.length), ∀ p ∈ W.ss[i].wr, heldB W.ss i p.1 = false
  all : (allL W).length ≤ 100
theorem worldB_iff {W : Wd} : worldB W = true ↔ WorldOk W := by
  constructor
  · intro h
    have h' := h
    unfold worldB at h'
    simp only [Bool.and_eq_true, decide_eq_true_eq] at h'
    obtain ⟨⟨h1, h2⟩, h3, h4, h5⟩ := h'
    exact ⟨h1, h2, fun i hi => sessB_iff.1 (List.all_eq_true.1 h3 _ (List.getElem_mem hi)), apartB_iff.1 h4, h5⟩
  · intro h
    rw [worldB_last h.rows h.many (fun i hi => sessB_iff.2 (h.sess i hi)) h.apart, decide_eq_true h.all]

end Go.Proofs.YtpbaobmegomfpaaDoor
