/-
  Texts of the proof, one behind the other: BackM3, BackMap, BackM4, Math5, BackDo, BOwn.
-/
import Derived.Test.YtpbaobmegomfpacGreatDoorM2
import Derived.Maps.OwnSet
import Derived.Maps.Views
import Derived.Test.YtpbaobmegomfpacGreatDoorM1
import Derived.Test.YtpbaobmegomfpacGreatDoorM4
set_option linter.unusedVariables false
set_option linter.unusedSimpArgs false
set_option maxRecDepth 100000
open List renaming getElem_toArray → gTA, getElem_cons_zero → gCZ, getElem_cons_succ → gCS, setIfInBounds_toArray → sTA, set_cons_zero → sCZ, set_cons_succ → sCS
open Go.Lib renaming hid → jD
open Nat renaming le_refl → nL
namespace Go.Proofs.YtpbaobmegomfpacGreatDoor
open Go.RowKit
def sessB (s : Sess) : Bool :=
 inB 0 s.st 2 && (pairsB s.set 6 9 && (pairsB s.prep 6 11 && (pairsB s.sav 6 9 && (pairsB s.wr 100 10 && (!((s.st == 0) && decide (0 < s.sav.length)) && !((s.st != 1) && decide (0 < s.wr.length)))))))
def heldB (ss : List Sess) (me : Int) (key : ByteArray) : Bool := (List.range ss.length).any fun i => decide ((i : Int) ≠ me) && ((ss[i]?).any fun s => (atL s.wr key).isSome)
def apartB (ss : List Sess) : Bool := (List.range ss.length).all fun (i : Nat) => (ss[i]?).all fun s => s.wr.all fun p => !heldB ss i p.1
def allF (out : PL) (l : PL) : PL := l.foldl (fun a p => plusL a p.1 ⟨#[]⟩) out
def allL (W : Wd) : PL := allF W.rows (W.ss.flatMap (·.wr))
def worldB (W : Wd) : Bool := (pairsB W.rows 100 10 && decide (W.ss.length ≤ 8)) && (W.ss.all sessB && (apartB W.ss && decide ((allL W).length ≤ 100)))
theorem heldB_yes {ss : List Sess} {me : Int} {key : ByteArray} {k : Nat} (hk : k < ss.length) (h : (atL ss[k].wr key).isSome = true) (hne : (k : Int) ≠ me) : heldB ss me key = true := by
 unfold heldB
 rw [List.any_eq_true]
 refine ⟨k, List.mem_range.2 hk, ?_⟩
 rw [List.getElem?_eq_getElem hk, decide_eq_true hne, Bool.true_and]
 exact h
theorem heldB_no {ss : List Sess} {me : Int} {key : ByteArray} (h : ∀ k (hk : k < ss.length), (atL ss[k].wr key).isSome = true → (k : Int) = me) : heldB ss me key = false := by
 unfold heldB
 rw [List.any_eq_false]
 intro k hk
 have hk := List.mem_range.1 hk
 rw [List.getElem?_eq_getElem hk]
 simp only [Bool.and_eq_true, decide_eq_true_eq, not_and]
 intro hne hs
 exact hne (h k hk hs)
theorem heldB_iff {ss : List Sess} {me : Int} {key : ByteArray} : heldB ss me key = true ↔ ∃ k, ∃ hk : k < ss.length, (atL ss[k].wr key).isSome = true ∧ (k : Int) ≠ me := by
 constructor
 ·intro h
  apply Classical.byContradiction
  intro hn
  have : heldB ss me key = false := heldB_no (fun k hk hs => Classical.byContradiction fun hne => hn ⟨k, hk, hs, hne⟩)
  rw [h] at this; cases this
 ·rintro ⟨k, hk, hs, hne⟩; exact heldB_yes hk hs hne
theorem apartB_iff {ss : List Sess} : apartB ss = true ↔ ∀ i (hi : i < ss.length), ∀ p ∈ ss[i].wr, heldB ss i p.1 = false := by
 unfold apartB
 rw [List.all_eq_true]
 constructor
 ·intro h i hi p hp
  have := h i (List.mem_range.2 hi)
  rw [List.getElem?_eq_getElem hi] at this
  have := List.all_eq_true.1 this p hp
  simpa using this
 ·intro h i hi
  have hi := List.mem_range.1 hi
  rw [List.getElem?_eq_getElem hi]
  show (ss[i].wr.all _) = true
  rw [List.all_eq_true]
  intro p hp
  rw [h i hi p hp]; rfl
theorem sessB_st {s : Sess} (h : inB 0 s.st 2 = false) : sessB s = false := by unfold sessB; rw [h]; rfl
theorem sessB_set {s : Sess} (h : pairsB s.set 6 9 = false) : sessB s = false := by unfold sessB; rw [h]; simp
theorem sessB_prep {s : Sess} (h : pairsB s.prep 6 11 = false) : sessB s = false := by unfold sessB; rw [h]; simp
theorem sessB_sav {s : Sess} (h : pairsB s.sav 6 9 = false) : sessB s = false := by unfold sessB; rw [h]; simp
theorem sessB_wr {s : Sess} (h : pairsB s.wr 100 10 = false) : sessB s = false := by unfold sessB; rw [h]; simp
theorem sessB_idle {s : Sess} (h1 : s.st = 0) (h2 : 0 < s.sav.length) : sessB s = false := by
 have e1 : (s.st == 0) = true := beq_iff_eq.2 h1
 unfold sessB; rw [e1, decide_eq_true h2]; simp
theorem sessB_tx {s : Sess} (h1 : s.st ≠ 1) (h2 : 0 < s.wr.length) : sessB s = false := by
 have e1 : (s.st != 1) = true := bne_iff_ne.2 h1
 unfold sessB; rw [e1, decide_eq_true h2]; simp
theorem sessB_ok {s : Sess} (h0 : inB 0 s.st 2 = true) (h1 : pairsB s.set 6 9 = true) (h2 : pairsB s.prep 6 11 = true) (h3 : pairsB s.sav 6 9 = true) (h4 : pairsB s.wr 100 10 = true) (h5 : ¬ (s.st = 0 ∧ 0 < s.sav.length)) (h6 : ¬ (s.st ≠ 1 ∧ 0 < s.wr.length)) : sessB s = true := by
 unfold sessB
 rw [h0, h1, h2, h3, h4]
 simp only [Bool.true_and, Bool.and_eq_true, Bool.not_eq_true', Bool.and_eq_false_iff, beq_eq_false_iff_ne, bne_eq_false_iff_eq, decide_eq_false_iff_not]
 refine ⟨?_, ?_⟩
 ·by_cases e : s.st = 0
  ·exact .inr (fun h => h5 ⟨e, h⟩)
  ·exact .inl e
 ·by_cases e : s.st = 1
  ·exact .inl e
  ·exact .inr (fun h => h6 ⟨e, h⟩)
structure SessOk (s : Sess) : Prop where
 lo : 0 ≤ s.st
 hi : s.st ≤ 2
 set : pairsB s.set 6 9 = true
 prep : pairsB s.prep 6 11 = true
 sav : pairsB s.sav 6 9 = true
 wr : pairsB s.wr 100 10 = true
 idle : s.st = 0 → s.sav = []
 tx : s.st ≠ 1 → s.wr = []
theorem sessB_iff {s : Sess} : sessB s = true ↔ SessOk s := by
 constructor
 ·intro h
  have h0 : inB 0 s.st 2 = true := by cases e : inB 0 s.st 2 with | true => rfl | false => rw [sessB_st e] at h; cases h
  have h1 : pairsB s.set 6 9 = true := by cases e : pairsB s.set 6 9 with | true => rfl | false => rw [sessB_set e] at h; cases h
  have h2 : pairsB s.prep 6 11 = true := by cases e : pairsB s.prep 6 11 with | true => rfl | false => rw [sessB_prep e] at h; cases h
  have h3 : pairsB s.sav 6 9 = true := by cases e : pairsB s.sav 6 9 with | true => rfl | false => rw [sessB_sav e] at h; cases h
  have h4 : pairsB s.wr 100 10 = true := by cases e : pairsB s.wr 100 10 with | true => rfl | false => rw [sessB_wr e] at h; cases h
  have hi : 0 ≤ s.st ∧ s.st ≤ 2 := by
   unfold inB at h0; simpa using h0
  refine ⟨hi.1, hi.2, h1, h2, h3, h4, fun e => ?_, fun e => ?_⟩
  ·by_cases hl : 0 < s.sav.length
   ·rw [sessB_idle e hl] at h; cases h
   ·exact List.length_eq_zero_iff.1 (by omega)
  ·by_cases hl : 0 < s.wr.length
   ·rw [sessB_tx e hl] at h; cases h
   ·exact List.length_eq_zero_iff.1 (by omega)
 ·intro h
  refine sessB_ok (inB_yes ⟨h.lo, h.hi⟩) h.set h.prep h.sav h.wr (fun e => ?_) (fun e => ?_)
  ·rw [h.idle e.1] at e; simp at e
  ·rw [h.tx e.1] at e; simp at e
theorem plusGo_len : ∀ (l : PL) (k v : ByteArray) (d : Bool), (plusGo k v d l).length ≤ l.length + (!d).toNat
 | [], k, v, d => by cases d <;> simp [plusGo]
 | p :: l, k, v, d => by
  have ih := plusGo_len l k v (d || !ltB p.1 k)
  unfold plusGo
  cases d <;> cases h1 : ltB p.1 k <;> cases h2 : eqB p.1 k <;> simp [h1] at ih ⊢ <;> omega
theorem plusL_len (l : PL) (k v : ByteArray) : (plusL l k v).length ≤ l.length + 1 := plusGo_len l k v false
theorem plusGo_mem : ∀ {l : PL} {k v : ByteArray} {d : Bool} {q : ByteArray × ByteArray}, q ∈ plusGo k v d l → q = (k, v) ∨ q ∈ l
 | [], k, v, d, q, h => by cases d <;> simp [plusGo] at h ⊢; exact h
 | p :: l, k, v, d, q, h => by
  unfold plusGo at h
  rw [List.mem_append, List.mem_append] at h
  rcases h with h | h | h
  ·split at h
   ·exact .inl (by simpa using h)
   ·cases h
  ·split at h
   ·cases h
   ·exact .inr (by simp at h; simp [h])
  ·rcases plusGo_mem h with h | h
   ·exact .inl h
   ·exact .inr (by simp [h])
theorem plusL_mem {l : PL} {k v : ByteArray} {q : ByteArray × ByteArray} (h : q ∈ plusL l k v) : q = (k, v) ∨ q ∈ l := plusGo_mem h
theorem worldB_rows {W : Wd} (h : pairsB W.rows 100 10 = false) : worldB W = false := by unfold worldB; rw [h]; rfl
theorem worldB_many {W : Wd} (h : ¬ W.ss.length ≤ 8) : worldB W = false := by unfold worldB; rw [decide_eq_false h]; simp
theorem worldB_sess {W : Wd} {i : Nat} (hi : i < W.ss.length) (h : sessB W.ss[i] = false) : worldB W = false := by
 have : W.ss.all sessB = false := by
  rw [List.all_eq_false]; exact ⟨W.ss[i], List.getElem_mem hi, by simp [h]⟩
 unfold worldB; rw [this]; simp
theorem worldB_last {W : Wd} (h1 : pairsB W.rows 100 10 = true) (h2 : W.ss.length ≤ 8) (h3 : ∀ i (hi : i < W.ss.length), sessB W.ss[i] = true) (h4 : ∀ i (hi : i < W.ss.length), ∀ p ∈ W.ss[i].wr, heldB W.ss i p.1 = false) : worldB W = decide ((allL W).length ≤ 100) := by
 have : W.ss.all sessB = true := by
  rw [List.all_eq_true]; intro s hs
  obtain ⟨i, hi, rfl⟩ := List.getElem_of_mem hs
  exact h3 i hi
 unfold worldB; rw [h1, decide_eq_true h2, this, apartB_iff.2 h4]; rfl
structure WorldOk (W : Wd) : Prop where
 rows : pairsB W.rows 100 10 = true
 many : W.ss.length ≤ 8
 sess : ∀ i (hi : i < W.ss.length), SessOk W.ss[i]
 apart : ∀ i (hi : i < W.ss.length), ∀ p ∈ W.ss[i].wr, heldB W.ss i p.1 = false
 all : (allL W).length ≤ 100
theorem worldB_iff {W : Wd} : worldB W = true ↔ WorldOk W := by
 constructor
 ·intro h
  have h' := h
  unfold worldB at h'
  simp only [Bool.and_eq_true, decide_eq_true_eq] at h'
  obtain ⟨⟨h1, h2⟩, h3, h4, h5⟩ := h'
  exact ⟨h1, h2, fun i hi => sessB_iff.1 (List.all_eq_true.1 h3 _ (List.getElem_mem hi)), apartB_iff.1 h4, h5⟩
 ·intro h
  rw [worldB_last h.rows h.many (fun i hi => sessB_iff.2 (h.sess i hi)) h.apart, decide_eq_true h.all]
end Go.Proofs.YtpbaobmegomfpacGreatDoor
namespace Go.Proofs.YtpbaobmegomfpacGreatDoor
open Go.RowKit Go.Maps
def kl (s : ByteArray) : Lit := .string s.data.toList
theorem kl_ne {a b : ByteArray} (h : a ≠ b) : kl a ≠ kl b := fun e => h (by
 unfold kl at e
 injection e with e
 exact ba_ext e)
def cntL (l : PL) (key : ByteArray) : Nat := (l.filter fun p => eqB p.1 key).length
theorem cntL_cons (p : ByteArray × ByteArray) (l : PL) (key : ByteArray) : cntL (p :: l) key = (if eqB p.1 key then 1 else 0) + cntL l key := by
 unfold cntL
 rw [List.filter_cons]
 split
 ·rw [List.length_cons]; omega
 ·omega
theorem cntL_append (l m : PL) (key : ByteArray) : cntL (l ++ m) key = cntL l key + cntL m key := by unfold cntL; rw [List.filter_append, List.length_append]
theorem cntL_nil (key : ByteArray) : cntL [] key = 0 := rfl
structure MapOk (D : DataW Unit) (R : PL) (cnt : ByteArray → Nat) : Prop where
 size : Maps.size D = R.length
 has : ∀ key, Maps.has D (kl key) = (atL R key).isSome
 at_ : ∀ key, D.atKey (kl key) (.lit (.int .i64 0)) = .lit (.int .i64 (cnt key))
theorem mapOk_empty : MapOk (.map []) [] (fun _ => 0) := ⟨rfl, fun _ => rfl, fun _ => rfl⟩
theorem mapOk_put {D : DataW Unit} {R : PL} {cnt : ByteArray → Nat} {k v : ByteArray} {c : Nat} (h : MapOk D R cnt) (ht : Tidy D) (hr : risingB R = true) (hk : WideAt.IsKeyLit (kl k)) :
  MapOk (D.put (kl k) (.lit (.int .i64 c))) (insL R k v) (fun key => if eqB k key then c else cnt key) := by
 refine ⟨?_, fun key => ?_, fun key => ?_⟩
 ·rw [size_put ht, h.has, ins_length hr, h.size]
 ·rw [at_ins hr]
  cases e : eqB k key
  ·rw [has_put_other (fun e' => kl_ne (eqB_false.1 e) e'.symm), h.has]; rfl
  ·rw [← eqB_iff.1 e, has_put_same ht.isMap hk]; rfl
 ·cases e : eqB k key
  ·rw [atKey_put_other (fun e' => kl_ne (eqB_false.1 e) e'.symm), h.at_]; rfl
  ·rw [← eqB_iff.1 e, atKey_put_same ht.isMap hk]; rfl
theorem MapOk.cnt {D : DataW Unit} {R : PL} {cnt cnt' : ByteArray → Nat} (h : MapOk D R cnt) (e : ∀ key, cnt key = cnt' key) : MapOk D R cnt' := ⟨h.size, h.has, fun key => by rw [h.at_, e]⟩
theorem ins_last {l : PL} {k v : ByteArray} (h : ∀ q ∈ l, ltB q.1 k = true) : insL l k v = l ++ [(k, v)] := by
 induction l with
 | nil => rfl
 | cons p l ih => rw [insL_lt (h p (by simp)), ih (fun q hq => h q (by simp [hq]))]; rfl
theorem ins_take {l : PL} (h : risingB l = true) {k : Nat} (hk : k < l.length) : insL (l.take k) l[k].1 l[k].2 = l.take (k + 1) := by
 rw [ins_last, List.take_succ_eq_append_getElem hk]
 intro q hq
 obtain ⟨j, hj, rfl⟩ := List.getElem_of_mem hq
 simp only [List.length_take] at hj
 rw [List.getElem_take]
 exact rising_lt h j k (by omega) hk
theorem rising_take {l : PL} (h : risingB l = true) (k : Nat) : risingB (l.take k) = true := by
 rw [risingB_iff] at h ⊢
 intro j hj
 simp only [List.length_take] at hj
 rw [List.getElem_take, List.getElem_take]
 exact h j (by omega)
end Go.Proofs.YtpbaobmegomfpacGreatDoor
namespace Go.Proofs.YtpbaobmegomfpacGreatDoor
open Go.RowKit
theorem cntL_rising : ∀ {l : PL} {key : ByteArray}, risingB l = true → cntL l key = if (atL l key).isSome then 1 else 0
 | [], _, _ => rfl
 | p :: l, key, h => by
  rw [cntL_cons, cntL_rising (rising_tail h)]
  cases e : eqB p.1 key
  ·rw [atL_no e]; simp
  ·have : atL l key = none := atL_none (fun q hq => eqB_false.2 (fun e' => ltB_ne (rising_head h q hq) (by rw [eqB_iff.1 e, e'])))
   rw [atL_yes e, this]; rfl
theorem cnt_flat_cons (s : Sess) (ss : List Sess) (key : ByteArray) : cntL ((s :: ss).flatMap (·.wr)) key = cntL s.wr key + cntL (ss.flatMap (·.wr)) key := by
 rw [List.flatMap_cons, cntL_append]
theorem cnt_one : ∀ {ss : List Sess} {key : ByteArray} {i : Nat} (hi : i < ss.length), cntL ss[i].wr key ≤ cntL (ss.flatMap (·.wr)) key
 | s :: ss, key, 0, _ => by rw [cnt_flat_cons]; simp
 | s :: ss, key, i + 1, hi => by
  have := cnt_one (key := key) (ss := ss) (i := i) (by simpa using hi)
  rw [cnt_flat_cons]; simp only [gCS]; omega
theorem cnt_two : ∀ {ss : List Sess} {key : ByteArray} {i j : Nat} (hi : i < j) (hj : j < ss.length), cntL (ss[i]'(by omega)).wr key + cntL ss[j].wr key ≤ cntL (ss.flatMap (·.wr)) key
 | s :: ss, key, 0, j + 1, _, hj => by
  have := cnt_one (key := key) (ss := ss) (i := j) (by simpa using hj)
  rw [cnt_flat_cons]; simp only [gCS, gCZ]; omega
 | s :: ss, key, i + 1, j + 1, hi, hj => by
  have := cnt_two (key := key) (ss := ss) (i := i) (j := j) (by omega) (by simpa using hj)
  rw [cnt_flat_cons]; simp only [gCS]; omega
theorem cnt_pos : ∀ {ss : List Sess} {key : ByteArray}, 1 ≤ cntL (ss.flatMap (·.wr)) key → ∃ i, ∃ hi : i < ss.length, 1 ≤ cntL ss[i].wr key
 | [], key, h => by simp [cntL] at h
 | s :: ss, key, h => by
  rw [cnt_flat_cons] at h
  by_cases h0 : 1 ≤ cntL s.wr key
  ·exact ⟨0, by simp, h0⟩
  ·obtain ⟨i, hi, h1⟩ := cnt_pos (ss := ss) (key := key) (by omega)
   exact ⟨i + 1, by simpa using hi, h1⟩
theorem cnt_more : ∀ {ss : List Sess} {key : ByteArray}, (∀ i (hi : i < ss.length), cntL ss[i].wr key ≤ 1) → 2 ≤ cntL (ss.flatMap (·.wr)) key → ∃ i j, ∃ (hi : i < ss.length) (hj : j < ss.length), i ≠ j ∧ 1 ≤ cntL ss[i].wr key ∧ 1 ≤ cntL ss[j].wr key
 | [], key, _, h => by simp [cntL] at h
 | s :: ss, key, h1, h => by
  rw [cnt_flat_cons] at h
  have h0 := h1 0 (by simp)
  simp only [gCZ] at h0
  by_cases hs : 1 ≤ cntL s.wr key
  ·obtain ⟨j, hj, h2⟩ := cnt_pos (ss := ss) (key := key) (by omega)
   exact ⟨0, j + 1, by simp, by simpa using hj, by omega, hs, h2⟩
  ·obtain ⟨i, j, hi, hj, hne, h2, h3⟩ := cnt_more (ss := ss) (key := key) (fun i hi => h1 (i + 1) (by simpa using hi)) (by omega)
   exact ⟨i + 1, j + 1, by simpa using hi, by simpa using hj, by omega, h2, h3⟩
def cntOk (W : Wd) : Bool := (W.ss.flatMap (·.wr)).all fun p => decide (cntL (W.ss.flatMap (·.wr)) p.1 ≤ 1)
theorem cntOk_no {W : Wd} {key : ByteArray} (h : 1 < cntL (W.ss.flatMap (·.wr)) key) : cntOk W = false := by
 unfold cntOk
 rw [List.all_eq_false]
 have : ∃ p ∈ W.ss.flatMap (·.wr), eqB p.1 key = true := by
  have h' : 0 < ((W.ss.flatMap (·.wr)).filter fun p => eqB p.1 key).length := by unfold cntL at h; omega
  obtain ⟨p, hp⟩ := List.exists_mem_of_length_pos h'
  rw [List.mem_filter] at hp
  exact ⟨p, hp.1, hp.2⟩
 obtain ⟨p, hp, he⟩ := this
 refine ⟨p, hp, ?_⟩
 rw [eqB_iff.1 he]
 simp; omega
theorem cntOk_yes {W : Wd} (h : ∀ key, cntL (W.ss.flatMap (·.wr)) key ≤ 1) : cntOk W = true := by
 unfold cntOk
 rw [List.all_eq_true]
 intro p _
 exact decide_eq_true (h p.1)
theorem some_cnt {l : PL} {key : ByteArray} (hr : risingB l = true) : 1 ≤ cntL l key ↔ (atL l key).isSome = true := by
 rw [cntL_rising hr]
 cases (atL l key).isSome <;> simp
theorem cnt_rising_le {l : PL} {key : ByteArray} (hr : risingB l = true) : cntL l key ≤ 1 := by rw [cntL_rising hr]; split <;> omega
theorem cntOk_apart {W : Wd} (hr : ∀ i (hi : i < W.ss.length), risingB W.ss[i].wr = true) : cntOk W = apartB W.ss := by
 cases h : apartB W.ss
 · -- two sessions
  have : ¬ ∀ i (hi : i < W.ss.length), ∀ p ∈ W.ss[i].wr, heldB W.ss i p.1 = false := fun hn => by rw [apartB_iff.2 hn] at h; cases h
  apply Classical.byContradiction
  intro hc
  have hc : cntOk W = true := by cases e : cntOk W with | true => rfl | false => exact absurd e hc
  apply this
  intro i hi p hp
  cases e : heldB W.ss i p.1
  ·rfl
  ·obtain ⟨k, hk, hs, hne⟩ := heldB_iff.1 e
   have h1 := (some_cnt (hr k hk)).2 hs
   have h2 := (some_cnt (hr i hi)).2 (atL_of_mem hp)
   have h3 : 2 ≤ cntL (W.ss.flatMap (·.wr)) p.1 := by
    rcases Nat.lt_or_gt_of_ne (show k ≠ i by omega) with hlt | hlt
    ·have := cnt_two (key := p.1) hlt hi; omega
    ·have := cnt_two (key := p.1) hlt hk; omega
   rw [cntOk_no (key := p.1) (by omega)] at hc; cases hc
 ·have ha := apartB_iff.1 h
  refine cntOk_yes fun key => ?_
  apply Classical.byContradiction
  intro hc
  obtain ⟨i, j, hi, hj, hne, h1, h2⟩ := cnt_more (key := key) (fun i hi => cnt_rising_le (hr i hi)) (show 2 ≤ cntL (W.ss.flatMap (·.wr)) key by omega)
  have s1 := (some_cnt (hr i hi)).1 h1
  have s2 := (some_cnt (hr j hj)).1 h2
  obtain ⟨v, hv⟩ := Option.isSome_iff_exists.1 s1
  have := ha i hi _ (atL_mem hv)
  rw [heldB_yes hj s2 (by omega)] at this
  cases this
theorem blank_app {l r : List UInt8} (h : ∀ c ∈ l, c ≠ 32) : blank (l ++ 32 :: r) = l.length := by
 induction l with
 | nil => rfl
 | cons c l ih =>
  have h1 := h c (by simp)
  rw [List.cons_append, blank, if_neg (by simpa using h1), ih (fun d hd => h d (by simp [hd]))]
  rfl
theorem blank_none {l : List UInt8} (h : ∀ c ∈ l, c ≠ 32) : blank l = l.length := by
 induction l with
 | nil => rfl
 | cons c l ih =>
  have h1 := h c (by simp)
  rw [blank, if_neg (by simpa using h1), ih (fun d hd => h d (by simp [hd]))]
  rfl
theorem blank_split (l : List UInt8) (h : blank l < l.length) : l = l.take (blank l) ++ 32 :: l.drop (blank l + 1) := by
 induction l with
 | nil => simp at h
 | cons c l ih =>
  by_cases hc : (c == 32) = true
  ·have e : blank (c :: l) = 0 := by rw [blank, if_pos hc]
   rw [e]
   have : c = 32 := by simpa using hc
   simp [this]
  ·have e : blank (c :: l) = blank l + 1 := by rw [blank, if_neg hc]
   rw [e] at h ⊢
   have h2 := ih (by simpa using h)
   simp only [List.take_succ_cons, List.drop_succ_cons, List.cons_append]
   rw [← h2]
theorem cutA_list (s : ByteArray) : (cutA s).data.toList = s.data.toList.take (cutI s) := by
 unfold cutA; rw [Lib.extract_data]; simp
theorem cutB_list (s : ByteArray) : (cutB s).data.toList = s.data.toList.drop (cutI s + 1) := by
 unfold cutB; rw [Lib.extract_data, List.take_of_length_le]; simp
theorem cut_of {s : ByteArray} {l r : List UInt8} (hs : s.data.toList = l ++ 32 :: r) (h : ∀ c ∈ l, c ≠ 32) :
  cutI s = l.length ∧ (cutA s).data.toList = l ∧ (cutB s).data.toList = r ∧ cutF s = true := by
 have e : cutI s = l.length := by unfold cutI; rw [hs, blank_app h]
 have hz : s.size = s.data.toList.length := by simp
 refine ⟨e, ?_, ?_, ?_⟩
 ·rw [cutA_list, e, hs, List.take_left' rfl]
 ·rw [cutB_list, e, hs, List.drop_append]; simp
 ·unfold cutF; rw [e, hz, hs]; simp
theorem cut_not {s : ByteArray} (h : ∀ c ∈ s.data.toList, c ≠ 32) : cutI s = s.size ∧ cutA s = s ∧ cutB s = ⟨#[]⟩ ∧ cutF s = false := by
 have e : cutI s = s.size := by unfold cutI; rw [blank_none h]; simp
 exact ⟨e, cutA_all e, cutB_none e, by unfold cutF; rw [e]; simp⟩
theorem cut_join {s : ByteArray} (h : cutF s = true) : s.data.toList = (cutA s).data.toList ++ 32 :: (cutB s).data.toList := by
 unfold cutF at h
 simp only [decide_eq_true_eq] at h
 rw [cutA_list, cutB_list]
 exact blank_split s.data.toList (by simpa [cutI] using h)
theorem cut_whole {s : ByteArray} (h : cutF s = false) : cutA s = s ∧ cutB s = ⟨#[]⟩ := by
 unfold cutF at h
 simp only [decide_eq_false_iff_not] at h
 have e : cutI s = s.size := by have := cutI_le s; omega
 exact ⟨cutA_all e, cutB_none e⟩
theorem wordL_clean : ∀ k, k ≤ 11 → ∀ c ∈ wordL k, c ≠ 32 := by decide
theorem bndB_clean {lo hi lim : Nat} {s : ByteArray} (h : bndB lo hi lim s = true) (hlo : 32 < lo) : ∀ c ∈ s.data.toList, c ≠ 32 := by
 unfold bndB at h
 simp only [Bool.and_eq_true, decide_eq_true_eq, List.all_eq_true] at h
 intro c hc e
 have := h.2 c hc
 subst e
 have h32 : (32 : UInt8).toNat = 32 := rfl
 omega
theorem prepB_38 {v : ByteArray} (h : prepB v = true) : v.size ≤ 38 := by
 unfold prepB at h
 simp only [Bool.and_eq_true, decide_eq_true_eq] at h
 have a1 := cut_total v
 have a2 := cut_total (cutB v)
 have a3 := kind_size (t := v) (by omega)
 have a4 := bndB_size h.2.2.1
 have a5 := plainV_size h.2.2.2
 omega
theorem good_more {k : Int} {key v : ByteArray} (h : checkE k key v = 0) : v.size ≤ 38 ∧ ∀ c ∈ key.data.toList, c ≠ 32 := by
 by_cases hk : k < 1 ∨ 11 < k
 ·rw [checkE_kind hk] at h; cases h
 ·cases h1 : keyB k key
  ·rw [checkE_key hk h1] at h; cases h
  ·cases h2 : valueB k v
   ·rw [checkE_value hk h2] at h; cases h
   ·constructor
    ·unfold valueB at h2
     split at h2
     ·exact prepB_38 h2
     ·have := plainV_size h2; omega
    ·by_cases h6 : 6 ≤ k ∧ k ≤ 11
     ·rw [keyB_yes h6] at h1
      exact bndB_clean h1 (by omega)
     ·rw [keyB_no h6] at h1
      have := isEmpty_size h1
      intro c hc
      have e : key.data.toList.length = 0 := by simpa using this
      rw [List.length_eq_zero_iff.1 e] at hc
      cases hc
theorem size_list (s : ByteArray) : s.size = s.data.toList.length := by simp
theorem text_list_12 (k : Nat) (key v : ByteArray) : ((wordAt k ++ (⟨#[32]⟩ ++ key)) ++ (⟨#[32]⟩ ++ v)).data.toList = wordL k ++ 32 :: (key.data.toList ++ 32 :: v.data.toList) := by
 simp [ByteArray.data_append, wordAt]
theorem text_list_9 (k : Nat) (key : ByteArray) : (wordAt k ++ (⟨#[32]⟩ ++ key)).data.toList = wordL k ++ 32 :: key.data.toList := by
 simp [ByteArray.data_append, wordAt]
theorem kindN_at {k : Nat} (h1 : 1 ≤ k) (h2 : k ≤ 11) {s : ByteArray} (h : s.data.toList = wordL k) : kindN s = k := kindN_hit h1 h2 h.symm
theorem empty_eq {s : ByteArray} (h : s.toList.isEmpty = true) : s = ⟨#[]⟩ := by
 rw [Lib.toList_data, List.isEmpty_iff] at h
 exact ba_ext (by rw [h])
theorem read_text {k : Nat} {key v : ByteArray} (h : checkE k key v = 0) :
  kindN (cutA (textOf k key v)) = k ∧ cutA (cutB (textOf k key v)) = key ∧ cutB (cutB (textOf k key v)) = v ∧ readE (textOf k key v) = 0 := by
 obtain ⟨g1, g2, g3, g4, g5, g6⟩ := good_of h
 obtain ⟨g7, g8⟩ := good_more h
 have hw := wordL_len k (by omega)
 have hwc := wordL_clean k (by omega)
 by_cases h6 : k < 6
 ·rw [decide_eq_true (by omega)] at g5 g6
  have e1 := empty_eq g5
  have e2 := empty_eq g6
  subst e1 e2
  rw [textOf_6 h6]
  obtain ⟨c1, c2, c3, c4⟩ := cut_not (s := wordAt k) (by rw [wordAt_toList]; exact hwc)
  have hk : kindN (cutA (wordAt k)) = k := by rw [c2]; exact kindN_at (by omega) (by omega) (wordAt_toList k)
  have hp := cutF_parts c4
  have hE := splitE_zero (t := wordAt k) (by omega) (splitBad_none c4)
  refine ⟨hk, hp.1, hp.2, ?_⟩
  rw [readE_check (by have := size_list (wordAt k); rw [wordAt_toList] at this; omega) hE, hk, hp.1, hp.2]
  exact h
 ·by_cases h9 : k < 9
  ·rw [decide_eq_true (by omega)] at g6
   rw [decide_eq_false (by omega)] at g5
   have e2 := empty_eq g6
   subst e2
   rw [textOf_9 h6 h9]
   have hl := text_list_9 k key
   generalize hT : wordAt k ++ (⟨#[32]⟩ ++ key) = T at hl ⊢
   obtain ⟨c1, c2, c3, c4⟩ := cut_of hl hwc
   have hk : kindN (cutA T) = k := kindN_at (by omega) (by omega) c2
   have hB : cutB T = key := ba_ext c3
   obtain ⟨d1, d2, d3, d4⟩ := cut_not g8
   rw [hB, d2, d3]
   have hE := splitE_zero (t := T) (by omega) (by unfold splitBad; rw [hB, d2, d3, c4, d4, g5]; rfl)
   refine ⟨hk, rfl, rfl, ?_⟩
   have hz := size_list T
   rw [hl] at hz
   have hzk := size_list key
   rw [readE_check (by simp at hz; omega) hE, hk, hB, d2, d3]
   exact h
  ·rw [decide_eq_false (by omega)] at g5 g6
   rw [textOf_12 h9]
   have hl := text_list_12 k key v
   generalize hT : (wordAt k ++ (⟨#[32]⟩ ++ key)) ++ (⟨#[32]⟩ ++ v) = T at hl ⊢
   obtain ⟨c1, c2, c3, c4⟩ := cut_of hl hwc
   have hk : kindN (cutA T) = k := kindN_at (by omega) (by omega) c2
   obtain ⟨d1, d2, d3, d4⟩ := cut_of c3 g8
   have hA : cutA (cutB T) = key := ba_ext d2
   have hB : cutB (cutB T) = v := ba_ext d3
   rw [hA, hB]
   have hE := splitE_zero (t := T) (by omega) (by unfold splitBad; rw [hA, hB, c4, d4, g5, g6]; rfl)
   refine ⟨hk, rfl, rfl, ?_⟩
   have hz := size_list T
   rw [hl] at hz
   have hzk := size_list key
   have hzv := size_list v
   rw [readE_check (by simp at hz; omega) hE, hk, hA, hB]
   exact h
theorem text_read {s : ByteArray} (h : readE s = 0) : checkE (kindN (cutA s)) (cutA (cutB s)) (cutB (cutB s)) = 0 ∧ textOf (kindN (cutA s)) (cutA (cutB s)) (cutB (cutB s)) = s := by
 have hl : ¬ 60 < s.size := fun hl => by rw [readE_long hl] at h; cases h
 have hsp : splitE s = 0 := Classical.byContradiction fun hs => by rw [readE_split hl hs] at h; exact hs h
 have hc := readE_check hl hsp
 rw [h] at hc
 refine ⟨hc.symm, ?_⟩
 obtain ⟨g1, g2, g3, g4, g5, g6⟩ := good_of hc.symm
 obtain ⟨h0, hb⟩ := splitE_ok hsp
 have hw := kindN_word (s := cutA s) (by omega)
 have hwA : (wordAt (kindN (cutA s))).data.toList = (cutA s).data.toList := by rw [wordAt_toList, hw]
 unfold splitBad at hb
 cases f1 : cutF s
 ·have hp := cutF_parts f1
  rw [hp.1] at g5
  have h6 : kindN (cutA s) < 6 := by
   rw [empty_of rfl] at g5
   have := of_decide_eq_true g5.symm
   omega
  rw [textOf_6 h6]
  apply ba_ext
  rw [hwA, (cut_whole f1).1]
 ·rw [f1] at hb
  have hk : (cutA (cutB s)).toList.isEmpty = false := by
   cases e : (cutA (cutB s)).toList.isEmpty
   ·rfl
   ·rw [e] at hb; simp at hb
  rw [hk] at g5
  have h6 : ¬ kindN (cutA s) < 6 := by
   have := of_decide_eq_false g5.symm
   omega
  have hj := cut_join f1
  cases f2 : cutF (cutB s)
  ·have hw2 := cut_whole f2
   rw [hw2.2] at g6
   have h9 : kindN (cutA s) < 9 := by
    rw [empty_of rfl] at g6
    have := of_decide_eq_true g6.symm
    omega
   rw [textOf_9 h6 h9]
   apply ba_ext
   rw [text_list_9, hw, hw2.1]
   exact hj.symm
  ·rw [f2, hk] at hb
   have hv : (cutB (cutB s)).toList.isEmpty = false := by
    cases e : (cutB (cutB s)).toList.isEmpty
    ·rfl
    ·rw [e] at hb; simp at hb
   rw [hv] at g6
   have h9 : ¬ kindN (cutA s) < 9 := by
    have := of_decide_eq_false g6.symm
    omega
   rw [textOf_12 h9]
   apply ba_ext
   rw [text_list_12, hw, ← cut_join f2]
   exact hj.symm
def tFailed : ByteArray := ⟨#[102, 97, 105, 108, 101, 100, 32, 97, 108, 114, 101, 97, 100, 121]⟩
def tBegun : ByteArray := ⟨#[98, 101, 103, 117, 110, 32, 97, 108, 114, 101, 97, 100, 121]⟩
def tNoTx : ByteArray := ⟨#[110, 111, 32, 116, 114, 97, 110, 115, 97, 99, 116, 105, 111, 110]⟩
def tNotIn : ByteArray := ⟨#[110, 111, 116, 32, 105, 110, 32, 97, 32, 116, 114, 97, 110, 115, 97, 99, 116, 105, 111, 110]⟩
def tAsked : ByteArray := ⟨#[97, 115, 32, 97, 115, 107, 101, 100]⟩
def tNotPrep : ByteArray := ⟨#[110, 111, 116, 32, 112, 114, 101, 112, 97, 114, 101, 100]⟩
def tFull : ByteArray := ⟨#[102, 117, 108, 108]⟩
def tHeld : ByteArray := ⟨#[104, 101, 108, 100]⟩
structure Ans where
 kind : Int
 text : ByteArray
def no' (t : ByteArray) : Ans := ⟨4, t⟩
def ok' : Ans := ⟨1, ⟨#[]⟩⟩
def fnd' (o : Option ByteArray) : Ans := match o with
 | some v => ⟨2, v⟩
 | none => ⟨3, ⟨#[]⟩⟩
def Wd.at (W : Wd) (i : Nat) : Sess := W.ss.getD i ⟨0, [], [], [], []⟩
def Wd.put (W : Wd) (i : Nat) (s : Sess) : Wd := ⟨W.rows, W.ss.set i s⟩
def plusF (rows l : PL) : PL := l.foldl (fun a p => plusL a p.1 p.2) rows
def did1 (W : Wd) (i : Nat) (k : Int) (key val : ByteArray) : Wd × Ans :=
 let s := W.at i
 if s.st = 2 ∧ ¬ (k = 2 ∨ k = 3) then (W, no' tFailed)
 else if k = 1 then (if s.st = 0 then (W.put i { s with st := 1, sav := s.set }, ok') else (W, no' tBegun))
 else if k = 2 ∨ k = 3 then
  (if s.st = 0 then (W, no' tNoTx)
  else if k = 2 ∧ s.st = 1 then (⟨plusF W.rows s.wr, W.ss.set i { s with st := 0, sav := [], wr := [] }⟩, ok')
  else (W.put i { s with st := 0, set := s.sav, sav := [], wr := [] }, ok'))
 else if k = 4 then (if s.st = 0 then (W.put i { s with set := [], prep := [] }, ok') else (W, no' tNotIn))
 else if k = 6 then (W, fnd' (atL s.set key))
 else if k = 7 then (W, fnd' (match atL s.wr key with | some v => some v | none => atL W.rows key))
 else if k = 9 then (if fndL s.set key = false ∧ 6 ≤ s.set.length then (W, no' tFull) else (W.put i { s with set := plusL s.set key val }, ok'))
 else if k = 10 then
  (if heldB W.ss i key = true then (W, no' tHeld)
  else if fndL (allL W) key = false ∧ 100 ≤ (allL W).length then (W, no' tFull)
  else if s.st = 1 then (W.put i { s with wr := plusL s.wr key val }, ok')
  else (⟨plusL W.rows key val, W.ss⟩, ok'))
 else if k = 11 then (if fndL s.prep key = false ∧ 6 ≤ s.prep.length then (W, no' tFull) else (W.put i { s with prep := plusL s.prep key val }, ok'))
 else (W, no' tAsked)
def didM (W : Wd) (i : Nat) (k : Int) (key val : ByteArray) : Wd × Ans :=
 if k = 8 then
  (if (W.at i).st = 2 then (W, no' tFailed)
  else match atL (W.at i).prep key with
   | none => (W, no' tNotPrep)
   | some t => did1 W i (kindN (cutA t)) (cutA (cutB t)) (cutB (cutB t)))
 else did1 W i k key val
def doM (W : Wd) (i : Nat) (k : Int) (key val : ByteArray) : Wd × Ans :=
 let r := didM W i k key val
 if r.2.kind = 4 ∧ (r.1.at i).st = 1 then (r.1.put i { r.1.at i with st := 2, wr := [] }, r.2) else r
def doE (W : Wd) (i : Int) (k : Int) (key val : ByteArray) : Int :=
 if worldB W = false then 5 else if i < 0 ∨ (W.ss.length : Int) ≤ i then 6 else checkE k key val
def Sz60 (l : PL) : Prop := l.length ≤ 100 ∧ ∀ p ∈ l, p.1.size ≤ 8 ∧ p.2.size ≤ 60
theorem pairsB_sz {l : PL} {most : Nat} {kind : Int} (hm : most ≤ 100) (h : pairsB l most kind = true) : Sz60 l := by
 obtain ⟨_, h2, h3⟩ := pairsB_rising h
 refine ⟨by omega, fun p hp => ?_⟩
 have hg := good_of (h3 p hp)
 exact ⟨hg.key8, hg.v60⟩
def slc (g n c : Nat) : Value := .slice (some ⟨g, 0, none⟩) n c
structure SzW (W : Wd) : Prop where
 rows : Sz60 W.rows
 many : W.ss.length ≤ 8
 li : ∀ i j (h : i < W.ss.length), j < 4 → Sz60 (W.ss[i].li j)
theorem Sz60.sz {l : PL} (h : Sz60 l) : Sz l := fun p hp => ⟨by have := (h.2 p hp).1; omega, by have := (h.2 p hp).2; omega⟩
theorem worldOk_sz {W : Wd} (h : WorldOk W) : SzW W := by
 refine ⟨pairsB_sz (nL _) h.rows, h.many, fun i j hi hj => ?_⟩
 have s := h.sess i hi
 rcases j4 hj with rfl | rfl | rfl | rfl
 ·exact pairsB_sz (by omega) s.set
 ·exact pairsB_sz (by omega) s.prep
 ·exact pairsB_sz (by omega) s.sav
 ·exact pairsB_sz (by omega) s.wr
structure OwnD (w : World) (X S gR cR : Nat) (G C : Nat → Nat → Nat) (W : Wd) : Prop where
 box : RowTo w X 85 2 [slc gR W.rows.length cR, slc S W.ss.length W.ss.length]
 rows : OwnL w gR cR W.rows
 blk : RowTo w S 144 (W.ss.length * 5) []
 st : ∀ i (h : i < W.ss.length), w.cell? ⟨S, i * 5, none⟩ = some (.int .i64 W.ss[i].st)
 cs : ∀ i j (h : i < W.ss.length), j < 4 → w.cell? ⟨S, i * 5 + (j + 1), none⟩ = some (slc (G i j) (W.ss[i].li j).length (C i j))
 ls : ∀ i j (h : i < W.ss.length), j < 4 → OwnL w (G i j) (C i j) (W.ss[i].li j)
 neXS : X ≠ S
 neRX : gR ≠ X
 neRS : gR ≠ S
 neGX : ∀ i j, i < W.ss.length → j < 4 → G i j ≠ X
 neGS : ∀ i j, i < W.ss.length → j < 4 → G i j ≠ S
 neGR : ∀ i j, i < W.ss.length → j < 4 → G i j ≠ gR
 inj : ∀ i j i' j', i < W.ss.length → j < 4 → i' < W.ss.length → j' < 4 → G i j = G i' j' → i = i' ∧ j = j'
structure LoD (base X S gR : Nat) (G : Nat → Nat → Nat) (n : Nat) : Prop where
 x : base ≤ X
 s : base ≤ S
 r : base ≤ gR
 g : ∀ i j, i < n → j < 4 → base ≤ G i j
def LoV (lo : Nat) (v : Value) : Prop := ∀ a n c, v = .slice (some a) n c → lo ≤ a.block
theorem LoV.at {lo b o n c : Nat} (h : lo ≤ b) : LoV lo (.slice (some ⟨b, o, none⟩) n c) := fun a n' c' e => by injection e with e; injection e with e; subst e; exact h
theorem LoV.slc {lo g n c : Nat} (h : lo ≤ g) : LoV lo (slc g n c) := LoV.at h
theorem LoV.non (lo n c : Nat) : LoV lo (.slice none n c) := fun a n' c' e => by injection e with e; cases e
theorem LoD.v {base X S gR n : Nat} {G : Nat → Nat → Nat} (h : LoD base X S gR G n) {i j : Nat} (hi : i < n) (hj : j < 4) {m c : Nat} : LoV base (Go.Proofs.YtpbaobmegomfpacGreatDoor.slc (G i j) m c) := LoV.at (h.g i j hi hj)
structure EndW (w : World) (base X S : Nat) (W : Wd) : Prop where
 box : ∃ r, RowTo w X 85 2 [r, slc S W.ss.length W.ss.length] ∧ Wld w w.heap.size r (slc S W.ss.length W.ss.length) W ∧ LoV base r
 blk : RowTo w S 144 (W.ss.length * 5) []
 loX : base ≤ X
 loS : base ≤ S
 los : ∀ k j v, k < W.ss.length → j < 4 → w.cell? ⟨S, k * 5 + (j + 1), none⟩ = some v → LoV base v
theorem OwnD.kept {w w' : World} {X S gR cR : Nat} {G C : Nat → Nat → Nat} {W : Wd} (h : OwnD w X S gR cR G C W) (hb : Below w.heap.size w w') : OwnD w' X S gR cR G C W :=
 ⟨h.box.below hb h.box.lt, h.rows.below hb h.rows.row.lt, h.blk.below hb h.blk.lt, fun i hi => (hb.cell (p := ⟨S, i * 5, none⟩) h.blk.lt).trans (h.st i hi), fun i j hi hj => (hb.cell (p := ⟨S, i * 5 + (j + 1), none⟩) h.blk.lt).trans (h.cs i j hi hj),
  fun i j hi hj => (h.ls i j hi hj).below hb (h.ls i j hi hj).row.lt, h.neXS, h.neRX, h.neRS, h.neGX, h.neGS, h.neGR, h.inj⟩
theorem OwnD.list {w : World} {X S gR cR : Nat} {G C : Nat → Nat → Nat} {W : Wd} (h : OwnD w X S gR cR G C W) (hz : SzW W) {i j : Nat} (hi : i < W.ss.length) (hj : j < 4) : Lst w w.heap.size (slc (G i j) (W.ss[i].li j).length (C i j)) (W.ss[i].li j) :=
 (h.ls i j hi hj).lst (by have := (hz.li i j hi hj).1; omega) (hz.li i j hi hj).sz
theorem OwnD.left {w w' : World} {X S gR cR : Nat} {G C : Nat → Nat → Nat} {W : Wd} {base : Nat} (h : OwnD w X S gR cR G C W) (lo : LoD base X S gR G W.ss.length) {r v1 v2 v3 v4 : Value} (lr : LoV base r) (lv : LoV base v1 ∧ LoV base v2 ∧ LoV base v3 ∧ LoV base v4) (hz : SzW W) {i : Nat} (hi : i < W.ss.length) {s' : Sess} {rows' : PL} (hsz : w.heap.size ≤ w'.heap.size)
  (hbox : RowTo w' X 85 2 [r, slc S W.ss.length W.ss.length]) (hblk : RowTo w' S 144 (W.ss.length * 5) []) (hr : Lst w' w'.heap.size r rows')
  (hS : ∀ k j, k ≠ i → j < 5 → w'.cell? ⟨S, k * 5 + j, none⟩ = w.cell? ⟨S, k * 5 + j, none⟩)
  (hL : ∀ k j, k < W.ss.length → k ≠ i → j < 4 → w'.heap[G k j]? = w.heap[G k j]?)
  (hs : Ses w' w'.heap.size S (i * 5) s' v1 v2 v3 v4) : EndW w' base X S ⟨rows', W.ss.set i s'⟩ := by
 have hl : (W.ss.set i s').length = W.ss.length := List.length_set
 refine ⟨⟨r, by rw [hl]; exact hbox, ⟨hr, ⟨⟨_, _, rfl, by rw [hl]; exact nL _⟩, by rw [hl]; have := hz.many; omega, fun hn => ⟨S, 0, W.ss.length, by rw [hl]; rfl, hblk.lt, fun k hk => ?_⟩⟩⟩, lr⟩, by rw [hl]; exact hblk, lo.x, lo.s, fun k j v hk hj hv => ?_⟩
 case refine_2 =>
  rw [hl] at hk
  by_cases e : k = i
  ·subst e
   rcases j4 hj with rfl | rfl | rfl | rfl
   ·rw [hs.c1] at hv; injection hv with hv; rw [← hv]; exact lv.1
   ·rw [hs.c2] at hv; injection hv with hv; rw [← hv]; exact lv.2.1
   ·rw [hs.c3] at hv; injection hv with hv; rw [← hv]; exact lv.2.2.1
   ·rw [hs.c4] at hv; injection hv with hv; rw [← hv]; exact lv.2.2.2
  ·rw [hS k (j + 1) e (by omega), h.cs k j hk hj] at hv
   injection hv with hv
   rw [← hv]
   exact lo.v hk hj
 rw [hl] at hk
 rw [Nat.zero_add]
 by_cases e : k = i
 ·subst e
  simp only [List.getElem_set_self]
  exact ⟨_, _, _, _, hs⟩
 ·simp only [List.getElem_set_ne (Ne.symm e)]
  have c0 := (hS k 0 e (by omega)).trans (h.st k hk)
  have c1 := (hS k 1 e (by omega)).trans (h.cs k 0 hk (by omega))
  have c2 := (hS k 2 e (by omega)).trans (h.cs k 1 hk (by omega))
  have c3 := (hS k 3 e (by omega)).trans (h.cs k 2 hk (by omega))
  have c4 := (hS k 4 e (by omega)).trans (h.cs k 3 hk (by omega))
  have ll : ∀ j, j < 4 → Lst w' w'.heap.size (slc (G k j) (W.ss[k].li j).length (C k j)) (W.ss[k].li j) := fun j hj =>
   ((h.ls k j hk hj).same (hL k j hk e hj)).lst (by have := (hz.li k j hk hj).1; omega) (hz.li k j hk hj).sz
  exact ⟨_, _, _, _, c0, c1, c2, c3, c4, ll 0 (by omega), ll 1 (by omega), ll 2 (by omega), ll 3 (by omega)⟩
theorem Lst.none_ (w : World) (B : Nat) : Lst w B (.slice none 0 0) [] := ⟨⟨none, 0, rfl, nL _⟩, by simp, by simp, fun h => absurd h (by simp), fun n c h => by injection h with _ _ h; exact h.symm⟩
set_option maxHeartbeats 1000000 in
theorem begin_no (w : World) (p : Addr) (st : Int) (hc : w.cell? p = some (.int .i64 st)) (hst : st ≠ 0) :
  Calls Tryz.prog 119 #[.pointer (some p)] w fun e w' => e = .returned (ansV 4 tBegun) ∧ Below w.heap.size w w' := by
 have hp := World.block_lt_of_cell? w _ hc
 have h1 : (st != 0) = true := bne_iff_ne.2 hst
 clear hst
 go_enter Tryz.func119, Tryz.ntmps119
 go_wp2_with fail
 refine (failure_any tBegun _).mono ?_
 rintro e w9 ⟨rfl, hb9⟩
 have X9 := (RowTo.whole w #[.int .i64 0, .string ⟨#[]⟩, .int .i64 0] 38).below hb9 (by simp)
 have r0 := X9.cell (j := 0) (by simp)
 have r1 := X9.cell (j := 1) (by simp)
 have r2 := X9.cell (j := 2) (by simp)
 have s0 := X9.frozen 0
 have s1 := X9.frozen 1
 have s2 := X9.frozen 2
 simp only [gCZ, gCS] at r0 r1 r2
 have B9 := jD (bel_add' ((Below.refl w.heap.size w).alloc (nL _) _) hb9 (by simp))
 clear X9 hb9
 unfold ansV
 go_wp2
 refine bodyPost_ret (v := .agg #[.int .i64 4, .string tBegun, .int .i64 0]) (by simp [results, Tryz.results119, go_sem, r0, r1, r2]) rfl ⟨rfl, ?_⟩
 exact ((B9.out.setCell (by simp) _).setCell (by simp) _).setCell (by simp) _
end Go.Proofs.YtpbaobmegomfpacGreatDoor
