/-
  Texts of the proof, one behind the other: PoolM3, PIdx, SlM, RwM.
-/
import Derived.Test.YtpbaobmegomfpabGreatDoorM20
import Derived.Test.YtpbaobmegomfpabGreatDoorRows
import Derived.WalkKit
import Derived.WalkSpells
import Derived.Lib.Hide
import Derived.Deep.QuietTactic
import Derived.BigQuiet
import Derived.IntWalk
import Derived.WalkSmall
import Derived.Test.YtpbaobmegomfpabGreatDoorM2
import Derived.ArgAppend
import Derived.Deep.Upon
import Derived.Laws.IdiomCopy
import Derived.Tactics
set_option linter.unusedVariables false
set_option linter.unusedSimpArgs false
set_option maxRecDepth 100000
open List renaming getElem_toArray → gTA, getElem_cons_zero → gCZ, getElem_cons_succ → gCS, setIfInBounds_toArray → sTA, set_cons_zero → sCZ, set_cons_succ → sCS
open Go.Lib renaming hid → jD
open Nat renaming le_refl → nL
namespace Go.Proofs.YtpbaobmegomfpabGreatDoor
open Go.RowKit
theorem at_lt {W : Wd} {i : Nat} (h : i < W.ss.length) : W.at i = W.ss[i] := by
 unfold Wd.at; rw [List.getD_eq_getElem?_getD, List.getElem?_eq_getElem h]; rfl
theorem put_self {W : Wd} {i : Nat} (h : i < W.ss.length) : (⟨W.rows, W.ss.set i (W.at i)⟩ : Wd) = W := by
 rw [at_lt h, List.set_getElem_self]
theorem any_own {W : Wd} {s : Nat} (h : s < W.ss.length) (key : ByteArray) : W.ss.any (fun x => fndL x.wr key) = (fndL (W.at s).wr key || heldB W.ss s key) := by
 rw [at_lt h]
 rw [Bool.eq_iff_iff, Bool.or_eq_true, any_get, heldB_iff]
 constructor
 ·rintro ⟨k, hk, hf⟩
  by_cases e : k = s
  ·subst e; exact .inl hf
  ·exact .inr ⟨k, hk, hf, by omega⟩
 ·rintro (hf | ⟨k, hk, hf, _⟩)
  ·exact ⟨s, h, hf⟩
  ·exact ⟨k, hk, hf⟩
structure Like (A B : Wd) (s c : Nat) : Prop where
 a : WorldOk A
 b : WorldOk B
 hs : s < A.ss.length
 hc : c < B.ss.length
 rows : A.rows = B.rows
 me : A.at s = B.at c
 held : ∀ key, heldB A.ss s key = heldB B.ss c key
section
variable {A B : Wd} {s c : Nat}
theorem Like.fnd (h : Like A B s c) (key : ByteArray) : fndL (allL A) key = fndL (allL B) key := by
 rw [fnd_all (pairsB_rising h.a.rows).1, fnd_all (pairsB_rising h.b.rows).1, any_own h.hs, any_own h.hc, h.rows, h.me, h.held]
theorem Like.len (h : Like A B s c) : (allL A).length = (allL B).length := by
 have h1 := sub_len (all_rising h.b) (all_rising h.a) (fun p hp => by rw [← h.fnd]; exact fnd_of_mem hp)
 have h2 := sub_len (all_rising h.a) (all_rising h.b) (fun p hp => by rw [h.fnd]; exact fnd_of_mem hp)
 omega
def Both (A B : Wd) (s c : Nat) (r q : Wd × Ans) : Prop := ∃ rows x a, r = (⟨rows, A.ss.set s x⟩, a) ∧ q = (⟨rows, B.ss.set c x⟩, a)
theorem both_ite {p : Prop} [Decidable p] {r r' q q' : Wd × Ans} (h1 : Both A B s c r q) (h2 : Both A B s c r' q') : Both A B s c (if p then r else r') (if p then q else q') := by
 by_cases h : p
 ·rw [if_pos h, if_pos h]; exact h1
 ·rw [if_neg h, if_neg h]; exact h2
theorem Like.same (h : Like A B s c) (a : Ans) : Both A B s c (A, a) (B, a) :=
 ⟨A.rows, A.at s, a, by rw [put_self h.hs], by rw [h.rows, h.me, put_self h.hc]⟩
theorem Like.put (h : Like A B s c) (x : Sess) (a : Ans) : Both A B s c (A.put s x, a) (B.put c x, a) := ⟨A.rows, x, a, rfl, by rw [h.rows]; rfl⟩
theorem Like.did1 (h : Like A B s c) (k : Int) (key val : ByteArray) : Both A B s c (did1 A s k key val) (did1 B c k key val) := by
 unfold Go.Proofs.YtpbaobmegomfpabGreatDoor.did1
 simp only
 rw [h.me, h.rows, h.held, h.fnd, h.len]
 have hr := h.rows
 refine both_ite (h.same _) ?_
 refine both_ite (both_ite (h.put _ _) (h.same _)) ?_
 refine both_ite (both_ite (h.same _) (both_ite ⟨_, _, _, rfl, rfl⟩ (h.put _ _))) ?_
 refine both_ite (both_ite (h.put _ _) (h.same _)) ?_
 refine both_ite (h.same _) ?_
 refine both_ite (h.same _) ?_
 refine both_ite (both_ite (h.same _) (h.put _ _)) ?_
 refine both_ite (both_ite (h.same _) (both_ite (h.same _) (both_ite (h.put _ _) ?_))) ?_
 ·refine ⟨plusL B.rows key val, A.at s, ok', ?_, ?_⟩
  ·rw [show A.ss.set s (A.at s) = A.ss by rw [at_lt h.hs, List.set_getElem_self]]
  ·rw [h.me, show B.ss.set c (B.at c) = B.ss by rw [at_lt h.hc, List.set_getElem_self]]
 exact both_ite (both_ite (h.same _) (h.put _ _)) (h.same _)
theorem Like.didM (h : Like A B s c) (k : Int) (key val : ByteArray) : Both A B s c (didM A s k key val) (didM B c k key val) := by
 unfold Go.Proofs.YtpbaobmegomfpabGreatDoor.didM
 rw [h.me]
 refine both_ite (both_ite (h.same _) ?_) (h.did1 _ _ _)
 cases atL (B.at c).prep key with
 | none => exact h.same _
 | some t => exact h.did1 _ _ _
theorem Like.doM (h : Like A B s c) (k : Int) (key val : ByteArray) : Both A B s c (doM A s k key val) (doM B c k key val) := by
 obtain ⟨rows, x, a, h1, h2⟩ := h.didM k key val
 have e1 : ∀ y, (⟨rows, A.ss.set s y⟩ : Wd).at s = y := fun y => by unfold Wd.at; simp only; rw [getD_set, if_pos ⟨rfl, h.hs⟩]
 have e2 : ∀ y, (⟨rows, B.ss.set c y⟩ : Wd).at c = y := fun y => by unfold Wd.at; simp only; rw [getD_set, if_pos ⟨rfl, h.hc⟩]
 unfold Go.Proofs.YtpbaobmegomfpabGreatDoor.doM
 simp only [h1, h2, e1, e2]
 refine both_ite ⟨rows, { x with st := 2, wr := [] }, a, ?_, ?_⟩ ⟨rows, x, a, rfl, rfl⟩
 ·simp [Wd.put]
 ·simp [Wd.put]
end
theorem rising_ext : ∀ {l m : PL}, risingB l = true → risingB m = true → (∀ k, atL l k = atL m k) → l = m
 | [], [], _, _, _ => rfl
 | [], q :: m, _, _, h => by have := h q.1; rw [atL_yes (eqB_self _)] at this; cases this
 | p :: l, [], _, _, h => by have := h p.1; rw [atL_yes (eqB_self _)] at this; cases this
 | p :: l, q :: m, hl, hm, h => by
  have hp : ∀ {l : PL} {p : ByteArray × ByteArray}, risingB (p :: l) = true → ∀ k v, atL (p :: l) k = some v → p.1 = k ∨ ltB p.1 k = true := fun {l p} hl k v hk => by
   have := atL_mem hk
   rcases List.mem_cons.1 this with e | hm
   ·left; rw [← e]
   ·right; exact rising_head hl _ hm
  have e1 : p.1 = q.1 := by
   have a1 : atL (q :: m) p.1 = some p.2 := by rw [← h, atL_yes (eqB_self _)]
   have a2 : atL (p :: l) q.1 = some q.2 := by rw [h, atL_yes (eqB_self _)]
   rcases hp hm _ _ a1 with e | h1
   ·exact e.symm
   ·rcases hp hl _ _ a2 with e | h2
    ·exact e
    ·have := ltB_asymm h1; rw [h2] at this; cases this
  have e2 : p.2 = q.2 := by
   have a1 := h p.1
   rw [atL_yes (eqB_self _), atL_yes (by rw [e1]; exact eqB_self _)] at a1
   injection a1
  have e3 : l = m := rising_ext (rising_tail hl) (rising_tail hm) (fun k => by
   by_cases e : eqB p.1 k = true
   ·have e' := eqB_iff.1 e
    rw [atL_none (fun r hr => eqB_false.2 (fun x => by have := ltB_ne (rising_head hl r hr); exact this (by rw [e', x]))), atL_none (fun r hr => eqB_false.2 (fun x => by have := ltB_ne (rising_head hm r hr); exact this (by rw [← e1, e', x])))]
   ·have e : eqB p.1 k = false := by simpa using e
    have := h k
    rwa [atL_no e, atL_no (by rw [← e1]; exact e)] at this)
  rw [e3, Prod.ext e1 e2]
theorem pairB_iff {p q : ByteArray × ByteArray} : pairB p q = true ↔ p = q := by
 unfold pairB; rw [Bool.and_eq_true, eqB_iff, eqB_iff]
 exact ⟨fun h => Prod.ext h.1 h.2, fun h => by rw [h]; exact ⟨rfl, rfl⟩⟩
theorem without_mem {l o : PL} {p : ByteArray × ByteArray} : p ∈ without l o ↔ p ∈ l ∧ p ∉ o := by
 unfold without
 rw [List.mem_filter]
 simp only [Bool.not_eq_true', and_congr_right_iff]
 intro _
 rw [← Bool.not_eq_true, List.any_eq_true]
 exact ⟨fun h hp => h ⟨p, hp, pairB_iff.2 rfl⟩, fun h ⟨q, hq, e⟩ => h (by rw [← pairB_iff.1 e]; exact hq)⟩
theorem without_nil {l o : PL} : (without l o).length > 0 ↔ ∃ p ∈ l, p ∉ o := by
 rw [gt_iff_lt, List.length_pos_iff_exists_mem]
 exact ⟨fun ⟨p, hp⟩ => ⟨p, (without_mem.1 hp).1, (without_mem.1 hp).2⟩, fun ⟨p, h1, h2⟩ => ⟨p, without_mem.2 ⟨h1, h2⟩⟩⟩
theorem at_plus {l : PL} {k v k' : ByteArray} (h : risingB l = true) : atL (plusL l k v) k' = if eqB k k' then some v else atL l k' := by rw [plus_ins h, at_ins h]
theorem mem_at {T : PL} (h : risingB T = true) {p : ByteArray × ByteArray} (hp : p ∈ T) : atL T p.1 = some p.2 := by
 induction T with
 | nil => cases hp
 | cons q T ih =>
  rcases List.mem_cons.1 hp with rfl | hp
  ·exact atL_yes (eqB_self _)
  ·rw [atL_no (eqB_false.2 (ltB_ne (rising_head h p hp)))]; exact ih (rising_tail h) hp
theorem plusF_at {T : PL} (hT : risingB T = true) : ∀ {l cur : PL}, risingB cur = true → (∀ p ∈ cur, p ∈ T) → (∀ p ∈ l, p ∈ T) → ∀ k, atL (plusF cur l) k = if (atL cur k).isSome || fndL l k then atL T k else none
 | [], cur, hc, h1, _, k => by
  show atL cur k = _
  have : fndL [] k = false := rfl
  rw [this, Bool.or_false]
  cases h : atL cur k with
  | none => simp
  | some v => simp [mem_at hT (h1 _ (atL_mem h))]
 | p :: l, cur, hc, h1, h2, k => by
  have hp := h2 p List.mem_cons_self
  have e : plusF cur (p :: l) = plusF (plusL cur p.1 p.2) l := rfl
  rw [e, plusF_at hT (by rw [plus_ins hc]; exact ins_rising hc) (fun q hq => by
   rcases plusL_mem hq with rfl | hq
   ·exact hp
   ·exact h1 q hq) (fun q hq => h2 q (List.mem_cons_of_mem _ hq)), at_plus hc]
  have : fndL (p :: l) k = (eqB p.1 k || fndL l k) := by
   unfold fndL
   cases e : eqB p.1 k
   ·rw [atL_no e]; simp
   ·rw [atL_yes e]; simp
  rw [this]
  cases e : eqB p.1 k <;> simp
theorem plusF_whole {T cur : PL} (hT : risingB T = true) (hc : risingB cur = true) (h : ∀ p ∈ cur, p ∈ T) : plusF cur (without T cur) = T := by
 refine rising_ext (plusF_up hc _) hT fun k => ?_
 rw [plusF_at hT hc h (fun p hp => (without_mem.1 hp).1)]
 cases hk : atL T k with
 | none => split <;> rfl
 | some v =>
  have hm := atL_mem hk
  by_cases hin : (k, v) ∈ cur
  ·have := atL_of_mem hin; simp only at this; rw [this]; simp
  ·have := fnd_of_mem (without_mem.2 ⟨hm, hin⟩); simp only at this; rw [this]; simp
section
variable {w : Wd} {s : Nat}
theorem wput_at (hs : s < w.ss.length) (x : Sess) : (w.put s x).at s = x := by unfold Wd.at Wd.put; simp only; rw [getD_set, if_pos ⟨rfl, hs⟩]
theorem wput_put (x y : Sess) : (w.put s x).put s y = w.put s y := by unfold Wd.put; simp
theorem do_set (hs : s < w.ss.length) (h0 : (w.at s).st = 0) {key val : ByteArray} (hr : fndL (w.at s).set key = true ∨ (w.at s).set.length < 6) : (doM w s 9 key val).1 = w.put s { w.at s with set := plusL (w.at s).set key val } := by
 have : ¬ (fndL (w.at s).set key = false ∧ 6 ≤ (w.at s).set.length) := fun h => by
  rcases hr with hr | hr
  ·rw [hr] at h; cases h.1
  ·omega
 unfold doM didM did1
 simp [h0, this, ok']
theorem do_prep (hs : s < w.ss.length) (h0 : (w.at s).st = 0) {key val : ByteArray} (hr : fndL (w.at s).prep key = true ∨ (w.at s).prep.length < 6) : (doM w s 11 key val).1 = w.put s { w.at s with prep := plusL (w.at s).prep key val } := by
 have : ¬ (fndL (w.at s).prep key = false ∧ 6 ≤ (w.at s).prep.length) := fun h => by
  rcases hr with hr | hr
  ·rw [hr] at h; cases h.1
  ·omega
 unfold doM didM did1
 simp [h0, this, ok']
theorem room_T {T cur : PL} (hT : risingB T = true) (h6 : T.length ≤ 6) (hc : risingB cur = true) (h : ∀ p ∈ cur, p ∈ T) {p : ByteArray × ByteArray} (hp : p ∈ T) : fndL cur p.1 = true ∨ cur.length < 6 := by
 cases hf : fndL cur p.1
 ·right
  have := sub_less hT hc (fun q hq => fnd_of_mem (h q hq)) (fnd_of_mem hp) hf
  omega
 ·exact .inl rfl
theorem doW_set {T : PL} (hT : risingB T = true) (h6 : T.length ≤ 6) : ∀ {l : PL} {w : Wd} (hs : s < w.ss.length) (h0 : (w.at s).st = 0) (hr : risingB (w.at s).set = true) (h1 : ∀ p ∈ (w.at s).set, p ∈ T) (h2 : ∀ p ∈ l, p ∈ T), doW w s 9 l = w.put s { w.at s with set := plusF (w.at s).set l }
 | [], w, hs, h0, hr, h1, _ => by show w = _; exact (put_self hs).symm
 | p :: l, w, hs, h0, hr, h1, h2 => by
  have e : doW w s 9 (p :: l) = doW (doM w s 9 p.1 p.2).1 s 9 l := rfl
  have hp := h2 p List.mem_cons_self
  rw [e, do_set hs h0 (room_T hT h6 hr h1 hp), doW_set hT h6 (by rw [wput_len]; exact hs) (by rw [wput_at hs]; exact h0) (by rw [wput_at hs]; simp only; rw [plus_ins hr]; exact ins_rising hr) (by
   rw [wput_at hs]
   intro q hq
   rcases plusL_mem hq with rfl | hq
   ·exact hp
   ·exact h1 q hq) (fun q hq => h2 q (List.mem_cons_of_mem _ hq)), wput_at hs, wput_put]
  rfl
theorem doW_prep {T : PL} (hT : risingB T = true) (h6 : T.length ≤ 6) : ∀ {l : PL} {w : Wd} (hs : s < w.ss.length) (h0 : (w.at s).st = 0) (hr : risingB (w.at s).prep = true) (h1 : ∀ p ∈ (w.at s).prep, p ∈ T) (h2 : ∀ p ∈ l, p ∈ T), doW w s 11 l = w.put s { w.at s with prep := plusF (w.at s).prep l }
 | [], w, hs, h0, hr, h1, _ => by show w = _; exact (put_self hs).symm
 | p :: l, w, hs, h0, hr, h1, h2 => by
  have e : doW w s 11 (p :: l) = doW (doM w s 11 p.1 p.2).1 s 11 l := rfl
  have hp := h2 p List.mem_cons_self
  rw [e, do_prep hs h0 (room_T hT h6 hr h1 hp), doW_prep hT h6 (by rw [wput_len]; exact hs) (by rw [wput_at hs]; exact h0) (by rw [wput_at hs]; simp only; rw [plus_ins hr]; exact ins_rising hr) (by
   rw [wput_at hs]
   intro q hq
   rcases plusL_mem hq with rfl | hq
   ·exact hp
   ·exact h1 q hq) (fun q hq => h2 q (List.mem_cons_of_mem _ hq)), wput_at hs, wput_put]
  rfl
theorem restore_ok (h : WorldOk w) (hs : s < w.ss.length) (h0 : (w.at s).st = 0) {p : PL × PL} (hp1 : pairsB p.1 6 9 = true) (hp2 : pairsB p.2 6 11 = true) : restoreW w s p = w.put s ⟨0, p.1, p.2, [], []⟩ := by
 have hx := h.sess s hs
 rw [← at_lt hs] at hx
 obtain ⟨r1, l1, _⟩ := pairsB_rising hp1
 obtain ⟨r2, l2, _⟩ := pairsB_rising hp2
 have hsav := hx.idle h0
 have hwr := hx.tx (by omega)
 unfold restoreW
 simp only
 obtain ⟨x, hw1, hx0, hxs, hxp, hxv, hxw, hrs, hrp, hms, hmp⟩ : ∃ x : Sess, (if (without (w.at s).set p.1).length > 0 ∨ (without (w.at s).prep p.2).length > 0 then (doM w s 4 ⟨#[]⟩ ⟨#[]⟩).1 else w) = w.put s x ∧ x.st = 0 ∧ True ∧ True ∧ x.sav = [] ∧ x.wr = [] ∧ risingB x.set = true ∧ risingB x.prep = true ∧ (∀ q ∈ x.set, q ∈ p.1) ∧ (∀ q ∈ x.prep, q ∈ p.2) := by
  by_cases hc : (without (w.at s).set p.1).length > 0 ∨ (without (w.at s).prep p.2).length > 0
  ·rw [if_pos hc]
   refine ⟨{ w.at s with set := [], prep := [] }, ?_, h0, trivial, trivial, hsav, hwr, rfl, rfl, (fun q hq => by cases hq), (fun q hq => by cases hq)⟩
   unfold doM didM did1
   simp [h0, ok']
  ·rw [if_neg hc]
   have h1 : ∀ q ∈ (w.at s).set, q ∈ p.1 := fun q hq => Classical.byContradiction fun hn => hc (.inl (without_nil.2 ⟨q, hq, hn⟩))
   have h2 : ∀ q ∈ (w.at s).prep, q ∈ p.2 := fun q hq => Classical.byContradiction fun hn => hc (.inr (without_nil.2 ⟨q, hq, hn⟩))
   exact ⟨w.at s, (put_self hs).symm, h0, trivial, trivial, hsav, hwr, (pairsB_rising hx.set).1, (pairsB_rising hx.prep).1, h1, h2⟩
 rw [hw1, wput_at hs]
 rw [doW_set r1 l1 (by rw [wput_len]; exact hs) (by rw [wput_at hs]; exact hx0) (by rw [wput_at hs]; exact hrs) (by rw [wput_at hs]; exact hms) (fun q hq => (without_mem.1 hq).1), wput_at hs, wput_put, plusF_whole r1 hrs hms]
 rw [doW_prep r2 l2 (by rw [wput_len]; exact hs) (by rw [wput_at hs]; exact hx0) (by rw [wput_at hs]; exact hrp) (by rw [wput_at hs]; exact hmp) (fun q hq => (without_mem.1 hq).1), wput_at hs, wput_put]
 simp only
 rw [plusF_whole r2 hrp hmp, hx0, hxv, hxw]
end
set_option maxHeartbeats 400000 in
theorem indexP_any (v : Value) (l : PL) (q1 q2 : ByteArray) (w : World) (hl : Lst w w.heap.size v l) :
  Calls Tryz.prog 150 #[v, .agg #[.string q1, .string q2]] w fun e w' => ∃ i : Int, e = .returned (.int .i64 i) ∧ decide (0 ≤ i) = l.any (fun p => pairB p (q1, q2)) ∧ Below w.heap.size w w' := by
 obtain ⟨A, c, rfl, hc⟩ := hl.form
 have hby := hl.bytes
 have n0 := (Below.refl w.heap.size w).alloc (nL _) (.cells #[.string q1, .string q2] 60)
 have HL := jD (hl.below n0)
 have HN := jD n0
 have X := RowTo.whole w #[.string q1, .string q2] 60
 obtain ⟨x0, x1⟩ := cells2 X
 clear hl n0 X
 go_enter Tryz.func150, Tryz.ntmps150
 go_wp2
 generalize hwA : w.alloc (.cells #[.string q1, .string q2] 60) = wA at *
 have hsz : wA.heap.size = w.heap.size + 1 := by rw [← hwA]; simp
 clear hwA
 go_loopw [8] (fun i wr => ∃ k : Nat, k ≤ l.length ∧ i = .int .i64 k ∧ Hid ((l.take k).any (fun p => pairB p (q1, q2)) = false) ∧ ∃ n, wr = wA.drewN n) (fun i _ => l.length - (intOf i).toNat)
 case atStart => exact ⟨0, by omega, rfl, rfl, 0, rfl⟩
 case round =>
  obtain ⟨k, hk, rfl, HZ, n, rfl⟩ := hrel
  by_cases hlt : k < l.length
  ·obtain ⟨b, off, rfl, hb, c0, c1⟩ := HL.out.pt hlt
   have hs1 : (l.take (k + 1)).any (fun p => pairB p (q1, q2)) = pairB l[k] (q1, q2) := by
    rw [List.take_succ_eq_append_getElem hlt, List.any_append, HZ.out]; simp
   have HS1 := jD hs1
   have HAN := jD (fun (h : pairB l[k] (q1, q2) = true) => show l.any (fun p => pairB p (q1, q2)) = true from List.any_eq_true.2 ⟨l[k], List.getElem_mem hlt, h⟩)
   generalize l[k] = y at *
   obtain ⟨y1, y2⟩ := y
   clear hs1
   cases hq : pairB (y1, y2) (q1, q2) with
   | true =>
    have he : y1 = q1 ∧ y2 = q2 := by have := pairB_iff.1 hq; injection this with a b; exact ⟨a, b⟩
    have HT := jD (HAN.out hq)
    obtain ⟨rfl, rfl⟩ := he
    clear hq HAN HS1
    go_wp2
    go_quiet (fail)
    go_wp2
    go_ret
    refine ⟨_, rfl, ?_, ?_⟩
    ·rw [HT.out]; simp
    ·exact below_drewN (below_drewN HN.out _) _
   | false =>
    have ht : (q1.toList == y1.toList) = false ∨ (q1 = y1 ∧ (q2.toList == y2.toList) = false) := by
     by_cases h1 : q1 = y1
     ·refine .inr ⟨h1, eqB_false.2 fun h2 => ?_⟩
      rw [pairB_iff.2 (by rw [h1, h2])] at hq; cases hq
     ·exact .inl (eqB_false.2 h1)
    rw [hq] at HS1
    clear hq HAN
    rcases ht with t1 | ⟨rfl, t2⟩
    all_goals
     go_wp2
     go_quiet (fail)
     go_wp2
     go_roundw
     case rel => exact ⟨k + 1, by omega, by go_num, HS1.out, n + nq, rfl⟩
     case measure => simp [intOf]; omega
  ·obtain rfl : k = l.length := by omega
   rw [List.take_length] at HZ
   go_wp2
   go_ret
   refine ⟨_, rfl, ?_, ?_⟩
   ·rw [HZ.out]; decide
   ·exact below_drewN HN.out _
set_option maxHeartbeats 400000 in
theorem containsP_any (v : Value) (l : PL) (q1 q2 : ByteArray) (w : World) (hl : Lst w w.heap.size v l) :
  Calls Tryz.prog 146 #[v, .agg #[.string q1, .string q2]] w fun e w' => e = .returned (.bool (l.any fun p => pairB p (q1, q2))) ∧ Below w.heap.size w w' := by
 have n0 := (Below.refl w.heap.size w).alloc (nL _) (.cells #[.string q1, .string q2] 60)
 have HN := jD n0
 have X := RowTo.whole w #[.string q1, .string q2] 60
 obtain ⟨x0, x1⟩ := cells2 X
 have HI := jD (indexP_any v l q1 q2 _ ((hl.below n0).more n0.size))
 obtain ⟨A, c, rfl, hc⟩ := hl.form
 clear hl n0 X
 go_enter Tryz.func146, Tryz.ntmps146
 go_wp2_with fail
 refine HI.out.mono ?_
 rintro e w1 ⟨i, rfl, hi, hb⟩
 have HI2 := jD hi
 have HB := jD (bel_add' HN.out hb HN.out.size)
 clear hi hb
 go_wp2
 go_ret
 exact ⟨by rw [← HI2.out]; rfl, HB.out⟩
theorem withoutC_any (q : ByteArray × ByteArray) (v : Value) (l : PL) (bx : Nat) (w : World) (hl : Lst w w.heap.size v l) (hx : w.cell? ⟨bx, 0, none⟩ = some v) (hxl : bx < w.heap.size) :
  Calls Tryz.prog 145 #[.agg #[.string q.1, .string q.2], .pointer (some ⟨bx, 0, none⟩)] w fun e w' => e = .returned (.bool (l.any fun p => pairB p q)) ∧ Below w.heap.size w w' := by
 have n0 := (Below.refl w.heap.size w).alloc (nL _) (.cells #[.string q.1, .string q.2] 60)
 have HN := jD n0
 have X := RowTo.whole w #[.string q.1, .string q.2] 60
 obtain ⟨x0, x1⟩ := cells2 X
 have HI := jD (containsP_any v l q.1 q.2 _ ((hl.below n0).more n0.size))
 obtain ⟨A, c, rfl, hc⟩ := hl.form
 clear hl n0 X
 go_enter Tryz.func145, Tryz.ntmps145
 go_wp2_with fail
 refine HI.out.mono ?_
 rintro e w1 ⟨rfl, hb⟩
 have HB := jD (bel_add' HN.out hb HN.out.size)
 clear hb
 go_wp2
 go_ret
 exact ⟨rfl, HB.out⟩
structure Sl (w : World) (t size : Nat) (v : Value) (g : Option Nat) (n : Nat) (xs : List Value) : Prop where
 len : xs.length = n * size
 form : (g = none ∧ v = .slice none 0 0 ∧ n = 0) ∨ ∃ b off cap tot, g = some b ∧ v = .slice (some ⟨b, off, none⟩) n cap ∧ n ≤ cap ∧ RowTo w b t tot [] ∧ (cap = 0 ∨ off + cap * size = tot) ∧ ∀ j (h : j < xs.length), w.cell? ⟨b, off + j, none⟩ = some xs[j]
section
variable {w w' : World} {t size n : Nat} {v : Value} {g : Option Nat} {xs : List Value}
theorem Sl.nil_ (w : World) (t size : Nat) : Sl w t size (.slice none 0 0) none 0 [] := ⟨by simp, .inl ⟨rfl, rfl, rfl⟩⟩
theorem Sl.lt (h : Sl w t size v g n xs) {b : Nat} (hb : g = some b) : b < w.heap.size := by
 rcases h.form with ⟨h1, _⟩ | ⟨b', off, cap, tot, h1, _, _, hr, _⟩
 ·rw [h1] at hb; cases hb
 ·rw [h1] at hb; injection hb with hb; subst hb; exact hr.lt
theorem Sl.keep (h : Sl w t size v g n xs) (hk : ∀ b, g = some b → w'.heap[b]? = w.heap[b]?) : Sl w' t size v g n xs := by
 refine ⟨h.len, h.form.imp id ?_⟩
 rintro ⟨b, off, cap, tot, h1, h2, h3, hr, h4, h5⟩
 exact ⟨b, off, cap, tot, h1, h2, h3, hr.same (hk b h1), h4, fun j hj => (World.cell?_of_block (hk b h1)).trans (h5 j hj)⟩
theorem Sl.below (h : Sl w t size v g n xs) (hb : Below w.heap.size w w') : Sl w' t size v g n xs := h.keep fun b hg => hb.block b (h.lt hg)
theorem Sl.at (h : Sl w t size v g n xs) (hn : 0 < n) : ∃ b off cap, g = some b ∧ v = .slice (some ⟨b, off, none⟩) n cap ∧ n ≤ cap ∧ ∀ j (h : j < xs.length), w.cell? ⟨b, off + j, none⟩ = some xs[j] := by
 rcases h.form with ⟨_, _, h0⟩ | ⟨b, off, cap, tot, h1, h2, h3, _, _, h5⟩
 ·omega
 ·exact ⟨b, off, cap, h1, h2, h3, h5⟩
theorem Sl.shape (h : Sl w t size v g n xs) : ∃ A c, v = .slice A n c ∧ n ≤ c := by
 rcases h.form with ⟨_, h1, h0⟩ | ⟨b, off, cap, tot, h1, h2, h3, _, _, h5⟩
 ·exact ⟨none, 0, by rw [h1, h0], by omega⟩
 ·exact ⟨_, cap, h2, h3⟩
def cutv (b off size n cap : Nat) : Value := if cap = 1 then .slice (some ⟨b, off, none⟩) n 0 else .slice (some ⟨b, off + size, none⟩) n (cap - 1)
theorem Sl.cut {b off cap : Nat} (h : Sl w t size (.slice (some ⟨b, off, none⟩) (n + 1) cap) g (n + 1) xs) : Sl w t size (cutv b off size n cap) g n (xs.drop size) := by
 refine ⟨by rw [List.length_drop, h.len, Nat.add_mul]; omega, .inr ?_⟩
 rcases h.form with ⟨_, h1, h0⟩ | ⟨b', off', cap', tot, h1, h2, h3, hr, h4, h5⟩
 ·cases h1
 ·injection h2 with e1 _ e3
  injection e1 with e1
  injection e1 with e1 e2
  subst e1 e2 e3
  have h4 := h4.resolve_left (by omega)
  unfold cutv
  by_cases hc1 : cap = 1
  ·rw [if_pos hc1]
   obtain rfl : n = 0 := by omega
   refine ⟨b, off, 0, tot, h1, rfl, by omega, hr, .inl rfl, fun j hj => ?_⟩
   rw [List.length_drop, h.len] at hj
   omega
  rw [if_neg hc1]
  refine ⟨b, off + size, cap - 1, tot, h1, rfl, by omega, hr, .inr ?_, fun j hj => ?_⟩
  ·obtain ⟨k, rfl⟩ : ∃ k, cap = k + 1 := ⟨cap - 1, by omega⟩
   rw [Nat.add_sub_cancel]
   rw [Nat.add_mul] at h4
   omega
  ·rw [List.length_drop] at hj
   have := h5 (size + j) (by omega)
   rw [← Nat.add_assoc] at this
   rw [this]
   simp
theorem ownsRow_sl {base : Nat} (h : w.ownsRow base t size v n xs) (hn : 0 < n) : ∃ b cap, v = .slice (some ⟨b, 0, none⟩) n cap ∧ base ≤ b ∧ b < w.heap.size ∧ Sl w t size v (some b) n xs := by
 obtain ⟨hl, ⟨_, h0⟩ | ⟨b, cap, cur, rfl, hb, hh, hc, hm, hz, hx⟩⟩ := h
 ·omega
 ·have hr : RowTo w b t (cap * size) xs := ⟨cur, hh, hz, by rw [hl]; exact hx⟩
  exact ⟨b, cap, rfl, hb, hr.lt, hl, .inr ⟨b, 0, cap, cap * size, rfl, rfl, hc, hr.nil, .inr (by omega), fun j hj => by rw [Nat.zero_add]; exact hr.cell hj⟩⟩
theorem sl_setCells {b o : Nat} {vs : List Value} (h : RowTo w b t n []) : RowTo (w.setCells b o vs) b t n [] := by
 induction vs generalizing o w with
 | nil => exact h
 | cons x vs ih => exact ih (h.hit _)
theorem setCells_keeps (b : Nat) : ∀ (vs : List Value) (o : Nat) (w : World), (w.setCells b o vs).os = w.os ∧ (w.setCells b o vs).tape = w.tape ∧ (w.setCells b o vs).output = w.output ∧ (w.setCells b o vs).heap.size = w.heap.size
 | [], o, w => ⟨rfl, rfl, rfl, rfl⟩
 | v :: r, o, w => by
  have h := setCells_keeps b r (o + 1) (w.setCell ⟨b, o, none⟩ v)
  rw [World.setCells]
  refine ⟨h.1, h.2.1, h.2.2.1, h.2.2.2.trans (by simp [World.setCell])⟩
theorem Sl.append {P : Program} (h : Sl w t size v g n xs) (ts ty : TypeId) (i : TypeInfo) (z : Value) (bytes : Nat) (ht : P.underlying ts = some (.slice t)) (hi : P.info? t = some i) (hz : i.zero = some z)
  (hsize : i.size = size) (hby : i.bytes = bytes) (hzs : z.cells.size = size) (hsz : 0 < size) (ad : Addr) (c : Nat) (news : List Value) (hl : news.length = size) (hnews : ∀ j u, news[j]? = some u → w.cell? (ad.add j) = some u) (h1 : ∀ u ∈ news, u.oneCell' = true)
  (h63 : n + 1 ≤ maxLen) (hbytes : (n + 1) * bytes ≤ 140737488355328) :
  ∃ b off cap w', (Builtin.append_ #[ts, ts] ty #[v, .slice (some ad) 1 c]).run P w = .ok (.slice (some ⟨b, off, none⟩) (n + 1) cap) w' ∧ Sl w' t size (.slice (some ⟨b, off, none⟩) (n + 1) cap) (some b) (n + 1) (xs ++ news) ∧
   w.grownBy w' g ∧ (g = some b ∨ (w.heap.size ≤ b ∧ b < w'.heap.size)) := by
 have hl1 : news.length = 1 * i.size := by rw [hl, hsize, Nat.one_mul]
 rcases h.form with ⟨rfl, rfl, rfl⟩ | ⟨b, off, cap, tot, rfl, rfl, hc, hr, hfit, hcell⟩
 ·have hx : xs = [] := List.eq_nil_of_length_eq_zero (by simpa using h.len)
  subst hx
  obtain ⟨v', w', hrun, hown, hgr, _⟩ := run_append_own (P := P) w w.heap.size ts ty t i z size bytes ht hi hz hsize hby hzs hsz _ 0 [] (World.ownsRow_nil w w.heap.size t size) ad 1 c news (by rw [hl, Nat.one_mul]) hnews h1 h63 hbytes (nL _)
  obtain ⟨b, cap, rfl, hb, hlt, hs⟩ := ownsRow_sl hown (by omega)
  exact ⟨b, 0, cap, w', hrun, hs, hgr, .inr ⟨hb, hlt⟩⟩
 ·by_cases hroom : n + 1 ≤ cap
  ·have hfit0 := hfit
   have hfit := hfit.resolve_left (by omega)
   have hmul : (n + 1) * size ≤ cap * size := Nat.mul_le_mul_right _ hroom
   rw [Nat.add_mul, Nat.one_mul] at hmul
   have hin : ∀ j, j < news.length → off + n * i.size + j < tot := fun j hj => by rw [hsize]; omega
   have hrun := run_append_room_cells (P := P) w ts ty t i ht hi b off n cap ad 1 c news hl1 hnews h1 hroom (fun j hj => by obtain ⟨u, hu⟩ := hr.any (hin j hj); rw [hu]; rfl) (fun j hj => hr.frozen _)
   rw [hsize] at hrun
   refine ⟨b, off, cap, _, hrun, ⟨?_, .inr ⟨b, off, cap, tot, rfl, rfl, hroom, sl_setCells hr, hfit0, fun j hj => ?_⟩⟩, ⟨?_, ?_, ?_, ?_, fun k hk hne => ?_⟩, .inl rfl⟩
   ·rw [List.length_append, h.len, hl, Nat.add_mul, Nat.one_mul]
   ·have hlen := h.len
    by_cases hj' : j < xs.length
    ·rw [World.cell?_setCells_out b _ _ _ _ (fun _ _ => Or.inl (by show off + j < off + n * size; omega)), hcell j hj', List.getElem_append_left hj']
    ·have hj2 : j - xs.length < news.length := by rw [List.length_append] at hj; omega
     have := World.cell?_setCells_in b news (off + n * size) w (fun k hk => by obtain ⟨u, hu⟩ := hr.any (j := off + n * size + k) (by rw [hsize] at hin; exact hin k hk); rw [hu]; rfl) (j - xs.length) hj2
     rw [show off + n * size + (j - xs.length) = off + j by omega] at this
     rw [this, List.getElem_append_right (by omega)]
   ·exact (setCells_keeps b news _ w).1
   ·exact (setCells_keeps b news _ w).2.1
   ·exact (setCells_keeps b news _ w).2.2.1
   ·exact Nat.le_of_eq (setCells_keeps b news _ w).2.2.2.symm
   ·exact World.heap_setCells_other w b _ news hk (fun e => hne (by rw [e]))
  ·obtain ⟨v', w', hrun, hown, hgr⟩ := run_append_arg_grows (P := P) w ts ty t i z size bytes ht hi hz hsize hby hzs hsz ⟨b, off, none⟩ n cap xs h.len (fun j u hu => by
    have hj := (List.getElem?_eq_some_iff.1 hu).1
    rw [Addr.add_lit, hcell j hj]
    rw [List.getElem?_eq_getElem hj] at hu
    exact hu) ad 1 c news (by rw [hl, Nat.one_mul]) hnews (by omega) h63 hbytes
   obtain ⟨b', cap', rfl, hb, hlt, hs⟩ := ownsRow_sl hown (by omega)
   exact ⟨b', 0, cap', w', hrun, hs, ⟨hgr.os, hgr.tape, hgr.output, hgr.size, fun k hk _ => hgr.block k hk (by simp)⟩, .inr ⟨hb, hlt⟩⟩
end
structure Rw (w : World) (t size b off cap : Nat) (d : List (List Value)) : Prop where
 each : ∀ e ∈ d, e.length = size
 room : d.length ≤ cap
 row : RowTo w b t (off + cap * size) []
 cell : ∀ i (h : i < d.length) j, j < size → w.cell? ⟨b, off + i * size + j, none⟩ = d[i][j]?
section
variable {w w' : World} {t size b off cap : Nat} {d : List (List Value)}
theorem Rw.keep (h : Rw w t size b off cap d) (hk : w'.heap[b]? = w.heap[b]?) : Rw w' t size b off cap d :=
 ⟨h.each, h.room, h.row.same hk, fun i hi j hj => (World.cell?_of_block hk).trans (h.cell i hi j hj)⟩
theorem Rw.below (h : Rw w t size b off cap d) {B : Nat} (hb : Below B w w') (hB : b < B) : Rw w' t size b off cap d := h.keep (hb.block b hB)
theorem Rw.cut (h : Rw w t size b off cap d) (n : Nat) : Rw w t size b off cap (d.take n) :=
 ⟨fun e he => h.each e (List.mem_of_mem_take he), Nat.le_trans (by rw [List.length_take]; omega) h.room, h.row, fun i hi j hj => by
  have hi' : i < d.length := by rw [List.length_take] at hi; omega
  rw [h.cell i hi' j hj, List.getElem_take]⟩
theorem at_in {i n size j : Nat} (hi : i < n) (hj : j < size) : i * size + j < n * size := by
 have : (i + 1) * size ≤ n * size := Nat.mul_le_mul_right _ hi
 rw [Nat.add_mul, Nat.one_mul] at this
 omega
theorem Rw.set (h : Rw w t size b off cap d) {i : Nat} (hi : i < d.length) {e : List Value} (he : e.length = size) : Rw (w.setCells b (off + i * size) e) t size b off cap (d.set i e) := by
 have hroom := h.room
 refine ⟨fun x hx => ?_, by rw [List.length_set]; exact hroom, sl_setCells h.row, fun k hk j hj => ?_⟩
 ·rcases List.mem_or_eq_of_mem_set hx with hx | hx
  ·exact h.each x hx
  ·rw [hx]; exact he
 ·rw [List.length_set] at hk
  by_cases e' : k = i
  ·subst e'
   rw [World.cell?_setCells_in b e (off + k * size) w (fun q hq => ?_) j (by omega), List.getElem_set_self, List.getElem?_eq_getElem]
   obtain ⟨u, hu⟩ := h.row.any (j := off + k * size + q) (by have := at_in (i := k) (n := cap) (size := size) (j := q) (by omega) (by omega); omega)
   rw [hu]; rfl
  ·rw [World.cell?_setCells_out b e _ w _ (fun _ _ => ?_), h.cell k hk j hj, List.getElem_set_ne (Ne.symm e')]
   show off + k * size + j < off + i * size ∨ off + i * size + e.length ≤ off + k * size + j
   rcases Nat.lt_or_ge k i with hlt | hge
   ·have := at_in hlt hj; omega
   ·have : (i + 1) * size ≤ k * size := Nat.mul_le_mul_right _ (by omega)
    rw [Nat.add_mul, Nat.one_mul] at this
    omega
theorem Rw.behind (h : Rw w t size b off cap d) {i : Nat} (hi : i ≤ d.length) (vs : List Value) : Rw (w.setCells b (off + i * size) vs) t size b off cap (d.take i) :=
 ⟨fun e he => h.each e (List.mem_of_mem_take he), Nat.le_trans (by rw [List.length_take]; omega) h.room, sl_setCells h.row, fun k hk j hj => by
  have hk' : k < i := by rw [List.length_take] at hk; omega
  rw [World.cell?_setCells_out b vs _ w _ (fun _ _ => .inl (by show off + k * size + j < off + i * size; have := at_in hk' hj; omega)), h.cell k (by omega) j hj, List.getElem_take]⟩
theorem setCells_other (w : World) (b o : Nat) (vs : List Value) {g : Nat} (hg : g ≠ b) : (w.setCells b o vs).heap[g]? = w.heap[g]? := by
 induction vs generalizing w o with
 | nil => rfl
 | cons v r ih => rw [World.setCells, ih]; exact Below.heap_setCell _ _ _ _ hg
theorem below_setCells {B : Nat} {w0 : World} (h : Below B w0 w) (hB : B ≤ b) (o : Nat) (vs : List Value) : Below B w0 (w.setCells b o vs) := by
 have k := setCells_keeps b vs o w
 exact ⟨k.1.trans h.os, k.2.1.trans h.tape, k.2.2.1.trans h.output, by rw [k.2.2.2]; exact h.size, fun g hg => (setCells_other w b o vs (by omega)).trans (h.block g hg)⟩
theorem run_clear_cells {P : Program} (w : World) (t e ty : TypeId) (z : Value) (ht : P.underlying t = some (.slice e)) (hv : ∀ w, (zeroValue e).run P w = .ok z w) (h1 : ∀ v ∈ z.cells.toList, v.oneCell' = true) (hz : 0 < z.cells.size) (b o n c : Nat) (hn : 0 < n)
  (hc : ∀ j, j < n * z.cells.size → (w.cell? ⟨b, o + j, none⟩).isSome = true) (hf : ∀ j, w.frozen? ⟨b, o + j, none⟩ = false) :
  (Builtin.clear_ #[t] ty #[.slice (some ⟨b, o, none⟩) n c]).run P w = .ok (.tuple #[]) (w.setCells b o (Builtin.zeroCells z.cells n).toList) := by
 have hl : (Builtin.zeroCells z.cells n).toList.length = n * z.cells.size := by simp [Builtin.zeroCells]
 have hst := run_storeCells_cells (P := P) b o (Builtin.zeroCells z.cells n).toList 0 w (by rw [hl]; simpa using hc) (fun j _ => by simpa using hf j) (by
  intro v hv'
  unfold Builtin.zeroCells at hv'
  simp only [Array.toList_map, List.mem_map] at hv'
  obtain ⟨i, _, rfl⟩ := hv'
  refine h1 _ ?_
  have hlt : i % z.cells.size < z.cells.size := Nat.mod_lt _ hz
  rw [getElem!_pos z.cells _ hlt]
  exact Array.getElem_mem_toList hlt)
 simp only [Nat.add_zero] at hst
 obtain ⟨m, rfl⟩ : ∃ m, n = m + 1 := ⟨n - 1, by omega⟩
 simp [Builtin.clear_, run_underlying ht, hv, hst]
end
theorem flat_get : ∀ {d : List (List Value)} {size : Nat}, (∀ e ∈ d, e.length = size) → ∀ {i : Nat} (hi : i < d.length) {j : Nat}, j < size → d.flatten[i * size + j]? = d[i][j]?
 | e :: d, size, he, 0, hi, j, hj => by
  rw [List.flatten_cons, List.getElem?_append_left (by rw [he e List.mem_cons_self]; omega)]
  simp
 | e :: d, size, he, i + 1, hi, j, hj => by
  have h1 := he e List.mem_cons_self
  rw [List.flatten_cons, List.getElem?_append_right (by rw [h1, Nat.add_mul]; omega), h1, show (i + 1) * size + j - size = i * size + j by rw [Nat.add_mul]; omega]
  exact flat_get (fun e' he' => he e' (List.mem_cons_of_mem _ he')) (by simpa using hi) hj
theorem Sl.rw {w : World} {t size n : Nat} {v : Value} {g : Option Nat} {d : List (List Value)} (h : Sl w t size v g n d.flatten) (he : ∀ e ∈ d, e.length = size) (hd : d.length = n) (hn : 0 < n) : ∃ b off cap, g = some b ∧ v = .slice (some ⟨b, off, none⟩) n cap ∧ Rw w t size b off cap d := by
 rcases h.form with ⟨_, _, h0⟩ | ⟨b, off, cap, tot, h1, h2, h3, h4, h5, h6⟩
 ·omega
 ·have h5 := h5.resolve_left (by omega)
  refine ⟨b, off, cap, h1, h2, he, by omega, by rw [h5]; exact h4, fun i hi j hj => ?_⟩
  have hl : i * size + j < d.flatten.length := by rw [h.len, ← hd]; exact at_in hi hj
  rw [Nat.add_assoc, h6 _ hl, ← List.getElem?_eq_getElem hl]
  exact flat_get he hi hj
theorem flat_len : ∀ {d : List (List Value)} {size : Nat}, (∀ e ∈ d, e.length = size) → d.flatten.length = d.length * size
 | [], _, _ => by simp
 | e :: d, size, he => by rw [List.flatten_cons, List.length_append, he e List.mem_cons_self, flat_len (fun e' he' => he e' (List.mem_cons_of_mem _ he')), List.length_cons, Nat.add_mul]; omega
theorem Rw.sl {w : World} {t size b off cap : Nat} {d : List (List Value)} (h : Rw w t size b off cap d) (hs : 0 < size) : Sl w t size (.slice (some ⟨b, off, none⟩) d.length cap) (some b) d.length d.flatten := by
 refine ⟨flat_len h.each, .inr ⟨b, off, cap, _, rfl, rfl, h.room, h.row, .inr rfl, fun q hq => ?_⟩⟩
 rw [flat_len h.each] at hq
 have hi : q / size < d.length := (Nat.div_lt_iff_lt_mul hs).2 hq
 have hj : q % size < size := Nat.mod_lt _ hs
 have e : q = q / size * size + q % size := by rw [Nat.mul_comm]; exact (Nat.div_add_mod q size).symm
 have h1 := h.cell _ hi _ hj
 rw [← flat_get h.each hi hj, Nat.add_assoc, ← e] at h1
 rw [h1, List.getElem?_eq_getElem]
section
variable {α : Type}
structure KeepI (p : α → Bool) (d : List α) (i j : Nat) (dk : List α) : Prop where
 len : dk.length = d.length
 ij : i < j
 jn : j ≤ d.length
 low : dk.take i = (d.take j).filter fun x => !p x
 high : dk.drop j = d.drop j
theorem KeepI.start {p : α → Bool} {d : List α} {k : Nat} (hk : k < d.length) (h1 : p d[k] = true) (h0 : ∀ x ∈ d.take k, p x = false) : KeepI p d k (k + 1) d := by
 refine ⟨rfl, by omega, by omega, ?_, rfl⟩
 rw [List.take_succ_eq_append_getElem hk, List.filter_append, List.filter_eq_self.2 (fun x hx => by rw [h0 x hx]; rfl)]
 simp [h1]
theorem KeepI.at {p : α → Bool} {d dk : List α} {i j : Nat} (h : KeepI p d i j dk) (hj : j < d.length) : dk[j]'(by rw [h.len]; exact hj) = d[j] := by
 have h1 := congrArg (fun l => l[0]?) h.high
 simp only [List.getElem?_drop, Nat.add_zero] at h1
 rw [List.getElem?_eq_getElem (by rw [h.len]; exact hj), List.getElem?_eq_getElem hj] at h1
 injection h1
theorem KeepI.keep {p : α → Bool} {d dk : List α} {i j : Nat} (h : KeepI p d i j dk) (hj : j < d.length) (hp : p d[j] = false) : KeepI p d (i + 1) (j + 1) (dk.set i d[j]) := by
 have hl := h.len
 have hij := h.ij
 refine ⟨by rw [List.length_set]; exact hl, by omega, by omega, ?_, ?_⟩
 ·rw [List.take_succ_eq_append_getElem (by rw [List.length_set]; omega), List.getElem_set_self, List.take_set_of_le (nL _), h.low, List.take_succ_eq_append_getElem hj, List.filter_append]
  simp [hp]
 ·rw [List.drop_set_of_lt (by omega), ← List.drop_drop, ← List.drop_drop, h.high]
theorem KeepI.skip {p : α → Bool} {d dk : List α} {i j : Nat} (h : KeepI p d i j dk) (hj : j < d.length) (hp : p d[j] = true) : KeepI p d i (j + 1) dk := by
 refine ⟨h.len, by have := h.ij; omega, by omega, ?_, ?_⟩
 ·rw [h.low, List.take_succ_eq_append_getElem hj, List.filter_append]
  simp [hp]
 ·rw [← List.drop_drop, ← List.drop_drop, h.high]
theorem KeepI.done {p : α → Bool} {d dk : List α} {i : Nat} (h : KeepI p d i d.length dk) : dk.take i = d.filter fun x => !p x := by rw [h.low, List.take_length]
theorem KeepI.num {p : α → Bool} {d dk : List α} {i : Nat} (h : KeepI p d i d.length dk) : (d.filter fun x => !p x).length = i := by
 rw [← h.done, List.length_take, h.len]; have := h.ij; omega
end
end Go.Proofs.YtpbaobmegomfpabGreatDoor
