/-
  Texts of the proof, one behind the other: RefD0.
-/
import Derived.Test.YtpbaobmegomfpabGreatDoorTPoolRuns2
import Derived.Test.YtpbaobmegomfpabGreatDoorTPoolRuns3
import Derived.Test.YtpbaobmegomfpabGreatDoorM16
import Derived.StillTailTactics
set_option linter.unusedVariables false
set_option linter.unusedSimpArgs false
set_option maxRecDepth 100000
open List renaming getElem_toArray → gTA, getElem_cons_zero → gCZ, getElem_cons_succ → gCS, setIfInBounds_toArray → sTA, set_cons_zero → sCZ, set_cons_succ → sCS
open Go.Lib renaming hid → jD
namespace Go.Proofs.YtpbaobmegomfpabGreatDoor
open Go.RowKit
section
variable {W : Wd} {i : Nat} {k : Int} {key val : ByteArray}
theorem did_split {C : Wd × Ans → Prop} {s : Sess} (hi : i < W.ss.length) (he : W.ss[i] = s) (hs : SessOk s) (h1 : 1 ≤ k) (h2 : k ≤ 11)
  (c1 : s.st = 2 → k ≠ 2 → k ≠ 3 → C (W, no' tFailed)) (c2 : k = 1 → s.st = 0 → C (⟨W.rows, W.ss.set i { s with st := 1, sav := s.set }⟩, ok')) (c3 : k = 1 → s.st ≠ 2 → s.st ≠ 0 → C (W, no' tBegun))
  (c4 : k = 2 ∨ k = 3 → s.st = 0 → C (W, no' tNoTx)) (c5 : k = 2 → s.st = 1 → C (⟨plusF W.rows s.wr, W.ss.set i { s with st := 0, sav := [], wr := [] }⟩, ok'))
  (c6 : k = 2 ∨ k = 3 → s.st ≠ 0 → ¬ (k = 2 ∧ s.st = 1) → C (⟨W.rows, W.ss.set i { s with st := 0, set := s.sav, sav := [], wr := [] }⟩, ok'))
  (c7 : k = 4 → s.st = 0 → C (⟨W.rows, W.ss.set i { s with set := [], prep := [] }⟩, ok')) (c8 : k = 4 → s.st ≠ 2 → s.st ≠ 0 → C (W, no' tNotIn)) (c9 : k = 5 → s.st ≠ 2 → C (W, no' tAsked))
  (c10 : k = 6 → s.st ≠ 2 → C (W, fnd' (atL s.set key))) (c11 : k = 7 → s.st ≠ 2 → ∀ v, atL s.wr key = some v → C (W, fnd' (some v))) (c12 : k = 7 → s.st ≠ 2 → atL s.wr key = none → C (W, fnd' (atL W.rows key)))
  (c13 : k = 9 → s.st ≠ 2 → (∃ v, atL s.set key = some v) ∨ (atL s.set key = none ∧ s.set.length < 6) → C (⟨W.rows, W.ss.set i { s with set := plusL s.set key val }⟩, ok')) (c14 : k = 9 → s.st ≠ 2 → atL s.set key = none → 6 ≤ s.set.length → C (W, no' tFull))
  (c15 : k = 11 → s.st ≠ 2 → (∃ v, atL s.prep key = some v) ∨ (atL s.prep key = none ∧ s.prep.length < 6) → C (⟨W.rows, W.ss.set i { s with prep := plusL s.prep key val }⟩, ok')) (c16 : k = 11 → s.st ≠ 2 → atL s.prep key = none → 6 ≤ s.prep.length → C (W, no' tFull))
  (c17 : k = 10 → s.st ≠ 2 → heldB W.ss i key = true → C (W, no' tHeld)) (c18 : k = 10 → s.st ≠ 2 → heldB W.ss i key = false → atL (allL W) key = none → 100 ≤ (allL W).length → C (W, no' tFull))
  (c19 : k = 10 → s.st = 1 → heldB W.ss i key = false → (∃ v, atL (allL W) key = some v) ∨ (atL (allL W) key = none ∧ (allL W).length < 100) → C (⟨W.rows, W.ss.set i { s with wr := plusL s.wr key val }⟩, ok'))
  (c20 : k = 10 → s.st = 0 → heldB W.ss i key = false → (∃ v, atL (allL W) key = some v) ∨ (atL (allL W) key = none ∧ (allL W).length < 100) → C (⟨plusL W.rows key val, W.ss.set i s⟩, ok'))
  (c21 : k = 8 → s.st ≠ 2 → atL s.prep key = none → C (W, no' tNotPrep)) (c22 : k = 8 → s.st ≠ 2 → ∀ t, atL s.prep key = some t → C (did1 W i (kindN (cutA t)) (cutA (cutB t)) (cutB (cutB t)))) : C (didM W i k key val) := by
 have C1 := jD c1
 have C2 := jD c2
 have C3 := jD c3
 have C4 := jD c4
 have C5 := jD c5
 have C6 := jD c6
 have C7 := jD c7
 have C8 := jD c8
 have C9 := jD c9
 have C10 := jD c10
 have C11 := jD c11
 have C12 := jD c12
 have C13 := jD c13
 have C14 := jD c14
 have C15 := jD c15
 have C16 := jD c16
 have C17 := jD c17
 have C18 := jD c18
 have C19 := jD c19
 have C20 := jD c20
 have C21 := jD c21
 have C22 := jD c22
 clear c21 c22 c1 c2 c3 c4 c5 c6 c7 c8 c9 c10 c11 c12 c13 c14 c15 c16 c17 c18 c19 c20
 have hlo := hs.lo
 have hhi := hs.hi
 have hself : W.ss.set i s = W.ss := by rw [← he]; exact List.set_getElem_self _
 have room : ∀ (l : PL) (n : Nat), ((∃ v, atL l key = some v) ∨ (atL l key = none ∧ l.length < n)) ∨ (atL l key = none ∧ n ≤ l.length) := fun l n => by
  cases h : atL l key with
  | some v => exact .inl (.inl ⟨v, rfl⟩)
  | none =>
   rcases Nat.lt_or_ge l.length n with h' | h'
   ·exact .inl (.inr ⟨rfl, h'⟩)
   ·exact .inr ⟨rfl, h'⟩
 have yes : ∀ (l : PL) (n : Nat), ((∃ v, atL l key = some v) ∨ (atL l key = none ∧ l.length < n)) → ¬ (fndL l key = false ∧ n ≤ l.length) := fun l n h => by
  rintro ⟨h1, h2⟩
  unfold fndL at h1
  rcases h with ⟨v, hv⟩ | ⟨_, h⟩
  ·rw [hv] at h1; cases h1
  ·omega
 have nope : ∀ (l : PL) (n : Nat), atL l key = none → n ≤ l.length → (fndL l key = false ∧ n ≤ l.length) := fun l n h1 h2 => ⟨by unfold fndL; rw [h1]; rfl, h2⟩
 unfold didM
 by_cases h8 : k = 8
 ·rw [if_pos h8]
  simp only [getD_at hi, he]
  split
  ·exact C1.out (by assumption) (by omega) (by omega)
  ·cases ha : atL s.prep key with
   | none => exact C21.out h8 (by assumption) ha
   | some t => exact C22.out h8 (by assumption) t ha
 rw [if_neg h8]
 unfold did1
 simp only [getD_at hi, he]
 by_cases hf : s.st = 2 ∧ ¬ (k = 2 ∨ k = 3)
 ·rw [if_pos hf]; exact C1.out hf.1 (by omega) (by omega)
 rw [if_neg hf]
 obtain rfl | rfl | rfl | rfl | rfl | rfl | rfl | rfl | rfl | rfl : k = 1 ∨ k = 2 ∨ k = 3 ∨ k = 4 ∨ k = 5 ∨ k = 6 ∨ k = 7 ∨ k = 9 ∨ k = 10 ∨ k = 11 := by omega
 ·rw [if_pos rfl]; split
  ·exact C2.out rfl (by assumption)
  ·exact C3.out rfl (by omega) (by assumption)
 ·rw [if_neg (by decide), if_pos (by decide)]; split
  ·exact C4.out (.inl rfl) (by assumption)
  ·split
   ·rename_i h; exact C5.out rfl h.2
   ·exact C6.out (.inl rfl) (by assumption) (by assumption)
 ·rw [if_neg (by decide), if_pos (by decide)]; split
  ·exact C4.out (.inr rfl) (by assumption)
  ·rw [if_neg (fun h => absurd h.1 (by decide))]; exact C6.out (.inr rfl) (by assumption) (fun h => absurd h.1 (by decide))
 ·rw [if_neg (by decide), if_neg (by decide), if_pos rfl]; split
  ·exact C7.out rfl (by assumption)
  ·exact C8.out rfl (by omega) (by assumption)
 ·simp only [show ((5 : Int) = 1) = False by decide, show ((5 : Int) = 2) = False by decide, show ((5 : Int) = 3) = False by decide, show ((5 : Int) = 4) = False by decide, show ((5 : Int) = 6) = False by decide, show ((5 : Int) = 7) = False by decide, show ((5 : Int) = 9) = False by decide, show ((5 : Int) = 10) = False by decide, show ((5 : Int) = 11) = False by decide, or_self, if_false]
  exact C9.out rfl (by omega)
 ·rw [if_neg (by decide), if_neg (by decide), if_neg (by decide), if_pos rfl]
  exact C10.out rfl (by omega)
 ·rw [if_neg (by decide), if_neg (by decide), if_neg (by decide), if_neg (by decide), if_pos rfl]
  cases ha : atL s.wr key with
  | some v => exact C11.out rfl (by omega) v ha
  | none => exact C12.out rfl (by omega) ha
 ·rw [if_neg (by decide), if_neg (by decide), if_neg (by decide), if_neg (by decide), if_neg (by decide), if_pos rfl]
  rcases room s.set 6 with h | h
  ·rw [if_neg (yes _ _ h)]; exact C13.out rfl (by omega) h
  ·rw [if_pos (nope _ _ h.1 h.2)]; exact C14.out rfl (by omega) h.1 h.2
 ·rw [if_neg (by decide), if_neg (by decide), if_neg (by decide), if_neg (by decide), if_neg (by decide), if_neg (by decide), if_pos rfl]
  cases hh : heldB W.ss i key with
  | true => rw [if_pos rfl]; exact C17.out rfl (by omega) hh
  | false =>
   rw [if_neg (by decide)]
   rcases room (allL W) 100 with h | h
   ·rw [if_neg (yes _ _ h)]
    split
    ·exact C19.out rfl (by assumption) hh h
    ·have := C20.out rfl (by omega) hh h; rwa [hself] at this
   ·rw [if_pos (nope _ _ h.1 h.2)]; exact C18.out rfl (by omega) hh h.1 h.2
 ·rw [if_neg (by decide), if_neg (by decide), if_neg (by decide), if_neg (by decide), if_neg (by decide), if_neg (by decide), if_neg (by decide), if_pos rfl]
  rcases room s.prep 6 with h | h
  ·rw [if_neg (yes _ _ h)]; exact C15.out rfl (by omega) h
  ·rw [if_pos (nope _ _ h.1 h.2)]; exact C16.out rfl (by omega) h.1 h.2
end
theorem all_sz {W : Wd} (h : WorldOk W) : (allL W).length * 32 ≤ 140737488351232 ∧ ∀ p ∈ allL W, p.1.size ≤ 140737488351232 ∧ p.2.size ≤ 140737488351232 := by
 have key : ∀ (l out : PL), (∀ p ∈ out, p.1.size ≤ 60 ∧ p.2.size ≤ 60) → (∀ p ∈ l, p.1.size ≤ 60) → ∀ p ∈ allF out l, p.1.size ≤ 60 ∧ p.2.size ≤ 60 := by
  intro l
  induction l with
  | nil => intro out h1 _; exact h1
  | cons q l ih =>
   intro out h1 h2
   refine ih (plusL out q.1 ⟨#[]⟩) (fun p hp => ?_) (fun p hp => h2 p (List.mem_cons_of_mem _ hp))
   rcases plusL_mem hp with rfl | hp
   ·exact ⟨h2 q List.mem_cons_self, by show 0 ≤ 60; omega⟩
   ·exact h1 p hp
 have sz := worldOk_sz h
 refine ⟨by have := h.all; omega, fun p hp => ?_⟩
 have := key (W.ss.flatMap (fun (s : Sess) => s.wr)) W.rows (fun p hp => by have := sz.rows.2 p hp; omega) (fun p hp => by
  obtain ⟨s, hs, hp⟩ := List.mem_flatMap.1 hp
  obtain ⟨k, hk, rfl⟩ := List.getElem_of_mem hs
  have := (sz.li k 3 hk (by omega)).2 p hp
  omega) p hp
 omega
theorem zplusF_len (l R : PL) : (plusF R l).length ≤ R.length + l.length := by
 induction l generalizing R with
 | nil => simp [plusF]
 | cons p l ih =>
  have := ih (plusL R p.1 p.2)
  have h2 := plusL_len R p.1 p.2
  have e : plusF R (p :: l) = plusF (plusL R p.1 p.2) l := rfl
  rw [e, List.length_cons]
  omega
theorem zplusF_step {R l : PL} {j : Nat} (h : j < l.length) : plusF R (l.take (j + 1)) = plusL (plusF R (l.take j)) l[j].1 l[j].2 := by
 rw [List.take_succ_eq_append_getElem h]
 unfold plusF
 rw [List.foldl_append]
 rfl
theorem zplusF_sizes {R l : PL} (hR : Sz60 R) (hl : Sz60 l) (j : Nat) : (plusF R (l.take j)).length * 32 ≤ 140737488351232 ∧ ∀ p ∈ plusF R (l.take j), p.1.size ≤ 140737488351232 ∧ p.2.size ≤ 140737488351232 := by
 refine ⟨?_, fun p hp => ?_⟩
 ·have h1 := zplusF_len (l.take j) R
  have h2 := hR.1
  have h3 := hl.1
  rw [List.length_take] at h1
  omega
 ·rcases Go.Proofs.YtpbaobmegomfpabGreatDoor.plusF_mem hp with h | h
  ·have := hR.2 p h; omega
  ·have := hl.2 p (List.mem_of_mem_take h); omega
structure ZCom (Q : Nat → Prop) (w wr : World) (S cap : Nat) (W : Wd) (s : Sess) (key val : ByteArray) (v1 v2 v3 v4 : Value) (j : Nat) : Prop where
 ex : ∃ A c, DidAt w wr (.slice A (plusF W.rows (s.wr.take j)).length c) (.slice (some ⟨S, 0, none⟩) W.ss.length cap) 2 key val s.st v1 v2 v3 v4 ∧ Lst wr wr.heap.size (.slice A (plusF W.rows (s.wr.take j)).length c) (plusF W.rows (s.wr.take j)) ∧ InP (InT Q w S) (.slice A (plusF W.rows (s.wr.take j)).length c) (plusF W.rows (s.wr.take j))
end Go.Proofs.YtpbaobmegomfpabGreatDoor
