/-
  Texts of the proof, one behind the other: Math, Math2, Math3, BackM, Lst, Mem, Wld, BackM2, BackM5, BPlace, RefPlus, BIns, BIns2, Clone, BStore, BStoreA, BStoreB, BackM3, BackMap, BackM4, Math5, BackDo, BOwn, BCopy.
-/
import Derived.WalkKit
import Derived.Lib.Bytealg
import Derived.Below
import Derived.Lib.Hide
import Derived.Deep.Draws
import Derived.Laws.OwnMore
import Derived.Test.YtpbaobmegomfpabGreatDoorRows
import Derived.Deep.QuietTactic
import Derived.BigQuiet
import Derived.IntWalk
import Derived.WalkSmall
import Derived.Maps.AppendAt
import Derived.OwnWalk
import Derived.Shelf.Spec.SlicesInsert
import Derived.Lib.AppendZerosOnto
import Derived.Shelf.Pu.Clone
import Derived.Deep.RegionWith
import Derived.Deep.RegionHeld3
import Derived.Maps.OwnSet
import Derived.Maps.Views
import Derived.Laws.MakeOwn
import Derived.Laws.Entries
set_option linter.unusedVariables false
set_option linter.unusedSimpArgs false
set_option maxRecDepth 100000
open List renaming getElem_toArray → gTA, getElem_cons_zero → gCZ, getElem_cons_succ → gCS, setIfInBounds_toArray → sTA, set_cons_zero → sCZ, set_cons_succ → sCS
open Go.Lib renaming hid → hD
open Nat renaming le_refl → nL
namespace Go.Proofs.YtpbaobmegomfpabGreatDoor
open Go.RowKit
def bndB (lo hi lim : Nat) (s : ByteArray) : Bool := decide (1 ≤ s.size) && decide (s.size ≤ lim) && s.data.toList.all fun c => decide (lo ≤ c.toNat) && decide (c.toNat ≤ hi)
theorem bndB_short {lo hi lim : Nat} {s : ByteArray} (h : s.size = 0 ∨ lim < s.size) : bndB lo hi lim s = false := by
 unfold bndB
 rcases h with h | h
 ·rw [decide_eq_false (by omega)]; rfl
 ·rw [decide_eq_false (p := s.size ≤ lim) (by omega)]; simp
theorem bndB_bad {lo hi lim : Nat} {s : ByteArray} {k : Nat} (hk : k < s.size) (h : s[k].toNat < lo ∨ hi < s[k].toNat) : bndB lo hi lim s = false := by
 unfold bndB
 have : (s.data.toList.all fun c => decide (lo ≤ c.toNat) && decide (c.toNat ≤ hi)) = false := by
  rw [List.all_eq_false]
  refine ⟨s[k], ?_, ?_⟩
  ·have : s[k] = s.data.toList[k]'(by simpa using hk) := rfl
   rw [this]; exact List.getElem_mem _
  ·simp; omega
 rw [this]; simp
theorem bndB_good {lo hi lim : Nat} {s : ByteArray} (h1 : 1 ≤ s.size) (h2 : s.size ≤ lim) (h : ∀ k (hk : k < s.size), lo ≤ s[k].toNat ∧ s[k].toNat ≤ hi) : bndB lo hi lim s = true := by
 unfold bndB
 rw [decide_eq_true h1, decide_eq_true h2]
 simp only [Bool.true_and, List.all_eq_true]
 intro c hc
 obtain ⟨k, hk, rfl⟩ := List.getElem_of_mem hc
 have := h k (by simpa using hk)
 have e : s[k]'(by simpa using hk) = s.data.toList[k] := rfl
 rw [e] at this
 simpa using this
def msg (k : UInt8) (s : ByteArray) : ByteArray := ⟨#[k, UInt8.ofNat s.size]⟩ ++ s
def inB (a n b : Int) : Bool := decide (a ≤ n) && decide (n ≤ b)
theorem inB_yes {a n b : Int} (h : a ≤ n ∧ n ≤ b) : inB a n b = true := by simp [inB, h]
theorem inB_no {a n b : Int} (h : ¬ (a ≤ n ∧ n ≤ b)) : inB a n b = false := by
 unfold inB; by_cases h1 : a ≤ n
 ·rw [decide_eq_false (p := n ≤ b) (by omega)]; simp
 ·rw [decide_eq_false h1]; rfl
def pickI (n m : Int) : Int := (if n < 0 then -(n + 1) else n) % m
theorem pickI_neg {n m : Int} (h : n < 0) : pickI n m = -(n + 1) % m := by unfold pickI; rw [if_pos h]
theorem pickI_pos {n m : Int} (h : ¬ n < 0) : pickI n m = n % m := by unfold pickI; rw [if_neg h]
theorem pickI_bd (n : Int) {m : Int} (hm : 0 < m) : 0 ≤ pickI n m ∧ pickI n m < m := ⟨Int.emod_nonneg _ (by omega), Int.emod_lt_of_pos _ hm⟩
theorem ret_int {k : IntKind} {a b : Int} (h : a = b) : Ending.returned (.int k a) = .returned (.int k b) := by rw [h]
theorem msg_size (k : UInt8) (s : ByteArray) : (msg k s).size = s.size + 2 := by
 unfold msg; rw [ByteArray.size_append]; show 2 + s.size = _; omega
theorem msg_toList (k : UInt8) (s : ByteArray) : (msg k s).data.toList = k :: UInt8.ofNat s.size :: s.data.toList := by
 unfold msg; rw [ByteArray.data_append]; simp
theorem get_toList (s : ByteArray) (i : Nat) (h : i < s.size) : s[i] = s.data.toList[i]'(by simpa using h) := rfl
theorem ba_ext {a b : ByteArray} (h : a.data.toList = b.data.toList) : a = b := by
 apply ByteArray.ext; exact Array.ext' h
end Go.Proofs.YtpbaobmegomfpabGreatDoor
namespace Go.Proofs.YtpbaobmegomfpabGreatDoor
open Go.RowKit
def blank : List UInt8 → Nat
 | [] => 0
 | c :: l => if c == 32 then 0 else blank l + 1
theorem blank_le (l : List UInt8) : blank l ≤ l.length := by
 induction l with
 | nil => exact nL _
 | cons c l ih => unfold blank; split <;> simp <;> omega
theorem blank_index (l : List UInt8) : Lib.indexByte l 32 = if blank l < l.length then (blank l : Int) else -1 := by
 induction l with
 | nil => rfl
 | cons c l ih =>
  by_cases h : (c == 32) = true
  ·have e1 : Lib.indexByte (c :: l) 32 = 0 := by unfold Lib.indexByte; rw [if_pos h]
   have e2 : blank (c :: l) = 0 := by unfold blank; rw [if_pos h]
   rw [e1, e2, if_pos (by simp)]; rfl
  ·have e1 : Lib.indexByte (c :: l) 32 = if Lib.indexByte l 32 == -1 then -1 else Lib.indexByte l 32 + 1 := by rw [Lib.indexByte, if_neg h]
   have e2 : blank (c :: l) = blank l + 1 := by rw [blank, if_neg h]
   by_cases hb : blank l < l.length
   ·have ih' : Lib.indexByte l 32 = (blank l : Int) := by rw [ih, if_pos hb]
    rw [e1, ih', e2, List.length_cons, if_neg (by simp), if_pos (by omega)]; rfl
   ·have ih' : Lib.indexByte l 32 = -1 := by rw [ih, if_neg hb]
    rw [e1, ih', e2, List.length_cons, if_pos (by rfl), if_neg (by omega)]
def cutI (s : ByteArray) : Nat := blank s.data.toList
def cutA (s : ByteArray) : ByteArray := s.extract 0 (cutI s)
def cutB (s : ByteArray) : ByteArray := s.extract (cutI s + 1) s.size
def cutF (s : ByteArray) : Bool := decide (cutI s < s.size)
theorem cutI_le (s : ByteArray) : cutI s ≤ s.size := by have := blank_le s.data.toList; simpa [cutI] using this
theorem cutI_index (s : ByteArray) : Lib.indexByte s.data.toList 32 = if cutF s then (cutI s : Int) else -1 := by
 rw [blank_index]; unfold cutF cutI; simp only [decide_eq_true_eq, Array.length_toList]; rfl
theorem cutA_all {s : ByteArray} (h : cutI s = s.size) : cutA s = s := by
 unfold cutA; rw [h]; apply ba_ext; simp
theorem cutB_none {s : ByteArray} (h : cutI s = s.size) : cutB s = ⟨#[]⟩ := by
 unfold cutB; rw [h]; apply ba_ext; simp
theorem cutA_size (s : ByteArray) : (cutA s).size = cutI s := by
 unfold cutA; rw [ByteArray.size_extract]; have := cutI_le s; omega
theorem cutB_size (s : ByteArray) : (cutB s).size = s.size - (cutI s + 1) := by
 unfold cutB; rw [ByteArray.size_extract]; omega
def wordL : Nat → List UInt8
 | 1 => [98, 101, 103, 105, 110]
 | 2 => [99, 111, 109, 109, 105, 116]
 | 3 => [114, 111, 108, 108, 98, 97, 99, 107]
 | 4 => [114, 101, 115, 101, 116]
 | 5 => [102, 97, 105, 108]
 | 6 => [103, 101, 116]
 | 7 => [114, 101, 97, 100]
 | 8 => [101, 120, 101, 99]
 | 9 => [115, 101, 116]
 | 10 => [112, 117, 116]
 | 11 => [112, 114, 101, 112]
 | _ => []
def wordAt (k : Nat) : ByteArray := ⟨(wordL k).toArray⟩
theorem wordAt_toList (k : Nat) : (wordAt k).data.toList = wordL k := by simp [wordAt]
def kindL (l : List UInt8) : Nat := ((List.range 12).find? fun k => decide (1 ≤ k) && (wordL k == l)).getD 0
def kindN (s : ByteArray) : Nat := kindL s.data.toList
theorem kindL_word : ∀ k, k ≤ 11 → 1 ≤ k → kindL (wordL k) = k := by decide
theorem kindN_hit {s : ByteArray} {k : Nat} (h1 : 1 ≤ k) (h2 : k ≤ 11) (h : wordL k = s.data.toList) : kindN s = k := by
 unfold kindN; rw [← h]; exact kindL_word k h2 h1
theorem kindN_none {s : ByteArray} (h : ∀ k, 1 ≤ k → k ≤ 11 → wordL k ≠ s.data.toList) : kindN s = 0 := by
 unfold kindN kindL
 rw [List.find?_eq_none.2]
 ·rfl
 ·intro k hk
  simp only [List.mem_range] at hk
  simp only [Bool.and_eq_true, decide_eq_true_eq, beq_iff_eq, not_and]
  exact fun h1 => h k h1 (by omega)
theorem kindN_le (s : ByteArray) : kindN s ≤ 11 := by
 unfold kindN kindL
 cases hf : (List.range 12).find? fun k => decide (1 ≤ k) && (wordL k == s.data.toList) with
 | none => simp
 | some k =>
  have := List.mem_of_find?_eq_some hf
  simp only [List.mem_range] at this
  simp; omega
theorem kindN_word {s : ByteArray} (h : 1 ≤ kindN s) : wordL (kindN s) = s.data.toList := by
 unfold kindN kindL at h ⊢
 cases hf : (List.range 12).find? fun k => decide (1 ≤ k) && (wordL k == s.data.toList) with
 | none => rw [hf] at h; simp at h
 | some k =>
  have := List.find?_some hf
  simp only [Bool.and_eq_true, decide_eq_true_eq, beq_iff_eq] at this
  simp [this.2]
def splitBad (t : ByteArray) : Bool := (cutF t && (cutA (cutB t)).toList.isEmpty) || (cutF (cutB t) && (cutB (cutB t)).toList.isEmpty)
def splitE (t : ByteArray) : Int := if kindN (cutA t) = 0 then 3 else if splitBad t = true then 4 else 0
theorem splitE_ok {t : ByteArray} (h : splitE t = 0) : kindN (cutA t) ≠ 0 ∧ splitBad t = false := by
 unfold splitE at h
 split at h
 ·omega
 ·rename_i h0
  split at h
  ·omega
  ·rename_i h1; exact ⟨h0, by simpa using h1⟩
theorem splitE_kind {t : ByteArray} (h : kindN (cutA t) = 0) : splitE t = 3 := by unfold splitE; rw [if_pos h]
theorem splitE_form {t : ByteArray} (h : kindN (cutA t) ≠ 0) (hb : splitBad t = true) : splitE t = 4 := by unfold splitE; rw [if_neg h, if_pos hb]
theorem splitE_bad {t : ByteArray} (h : kindN (cutA t) ≠ 0) (he : splitE t ≠ 0) : splitBad t = true := by
 unfold splitE at he
 rw [if_neg h] at he
 cases hb : splitBad t
 ·rw [hb] at he; simp at he
 ·rfl
theorem cutF_none {t : ByteArray} (h : cutF t = false) : cutF (cutB t) = false := by
 have := cutB_size t
 unfold cutF at h ⊢
 simp only [decide_eq_false_iff_not] at h ⊢
 omega
def plainV (k : Int) (v : ByteArray) : Bool := if k = 9 ∨ k = 10 then bndB 33 126 20 v else v.toList.isEmpty
theorem plainV_yes {k : Int} {v : ByteArray} (h : k = 9 ∨ k = 10) : plainV k v = bndB 33 126 20 v := by unfold plainV; rw [if_pos h]
theorem plainV_no {k : Int} {v : ByteArray} (h : ¬ (k = 9 ∨ k = 10)) : plainV k v = v.toList.isEmpty := by unfold plainV; rw [if_neg h]
def keyB (k : Int) (key : ByteArray) : Bool := if 6 ≤ k ∧ k ≤ 11 then bndB 97 122 8 key else key.toList.isEmpty
theorem keyB_yes {k : Int} {v : ByteArray} (h : 6 ≤ k ∧ k ≤ 11) : keyB k v = bndB 97 122 8 v := by unfold keyB; rw [if_pos h]
theorem keyB_no {k : Int} {v : ByteArray} (h : ¬ (6 ≤ k ∧ k ≤ 11)) : keyB k v = v.toList.isEmpty := by unfold keyB; rw [if_neg h]
def prepB (t : ByteArray) : Bool := decide (splitE t = 0) && (decide (kindN (cutA t) = 6 ∨ kindN (cutA t) = 7 ∨ kindN (cutA t) = 10) && (bndB 97 122 8 (cutA (cutB t)) && plainV (kindN (cutA t)) (cutB (cutB t))))
theorem prepB_split {t : ByteArray} (h : splitE t ≠ 0) : prepB t = false := by unfold prepB; rw [decide_eq_false h, Bool.false_and]
theorem prepB_kind {t : ByteArray} (h : ¬ (kindN (cutA t) = 6 ∨ kindN (cutA t) = 7 ∨ kindN (cutA t) = 10)) : prepB t = false := by unfold prepB; rw [decide_eq_false h]; simp
theorem prepB_rest {t : ByteArray} (h : splitE t = 0) (hk : kindN (cutA t) = 6 ∨ kindN (cutA t) = 7 ∨ kindN (cutA t) = 10) :
  prepB t = (bndB 97 122 8 (cutA (cutB t)) && plainV (kindN (cutA t)) (cutB (cutB t))) := by unfold prepB; rw [decide_eq_true h, decide_eq_true hk, Bool.true_and, Bool.true_and]
def valueB (k : Int) (v : ByteArray) : Bool := if k = 11 then prepB v else plainV k v
def checkE (k : Int) (key v : ByteArray) : Int := if k < 1 ∨ 11 < k then 3 else if (keyB k key && valueB k v) = true then 0 else 4
theorem checkE_kind {k : Int} {key v : ByteArray} (h : k < 1 ∨ 11 < k) : checkE k key v = 3 := by unfold checkE; rw [if_pos h]
theorem checkE_ok {k : Int} {key v : ByteArray} (h : ¬ (k < 1 ∨ 11 < k)) (h1 : keyB k key = true) (h2 : valueB k v = true) : checkE k key v = 0 := by unfold checkE; rw [if_neg h, h1, h2]; rfl
theorem checkE_key {k : Int} {key v : ByteArray} (h : ¬ (k < 1 ∨ 11 < k)) (h1 : keyB k key = false) : checkE k key v = 4 := by unfold checkE; rw [if_neg h, h1]; rfl
theorem checkE_value {k : Int} {key v : ByteArray} (h : ¬ (k < 1 ∨ 11 < k)) (h2 : valueB k v = false) : checkE k key v = 4 := by unfold checkE; rw [if_neg h, h2]; simp
def readE (t : ByteArray) : Int := if 60 < t.size then 1 else if splitE t = 0 then checkE (kindN (cutA t)) (cutA (cutB t)) (cutB (cutB t)) else splitE t
theorem readE_long {t : ByteArray} (h : 60 < t.size) : readE t = 1 := by unfold readE; rw [if_pos h]
theorem readE_split {t : ByteArray} (h : ¬ 60 < t.size) (h1 : splitE t ≠ 0) : readE t = splitE t := by unfold readE; rw [if_neg h, if_neg h1]
theorem readE_check {t : ByteArray} (h : ¬ 60 < t.size) (h1 : splitE t = 0) : readE t = checkE (kindN (cutA t)) (cutA (cutB t)) (cutB (cutB t)) := by unfold readE; rw [if_neg h, if_pos h1]
theorem isEmpty_size {s : ByteArray} (h : s.toList.isEmpty = true) : s.size = 0 := by
 rw [Lib.toList_data, List.isEmpty_iff] at h
 have e : s.size = s.data.toList.length := by simp
 rw [e, h]; rfl
theorem bndB_size {lo hi lim : Nat} {s : ByteArray} (h : bndB lo hi lim s = true) : 1 ≤ s.size ∧ s.size ≤ lim := by
 unfold bndB at h
 simp only [Bool.and_eq_true, decide_eq_true_eq] at h
 exact h.1
theorem wordL_len : ∀ k, k ≤ 11 → (wordL k).length ≤ 8 := by decide
theorem cut_total (t : ByteArray) : t.size ≤ (cutA t).size + 1 + (cutB t).size := by
 have := cutA_size t
 have := cutB_size t
 have := cutI_le t
 omega
theorem kind_size {t : ByteArray} (h : kindN (cutA t) ≠ 0) : (cutA t).size ≤ 8 := by
 have h1 := kindN_word (s := cutA t) (by omega)
 have h2 := wordL_len (kindN (cutA t)) (kindN_le _)
 rw [h1] at h2
 simpa using h2
theorem plainV_size {k : Int} {v : ByteArray} (h : plainV k v = true) : v.size ≤ 20 := by
 unfold plainV at h
 split at h
 ·exact (bndB_size h).2
 ·have := isEmpty_size h; omega
theorem prepB_read (t : ByteArray) : prepB t = (decide (readE t = 0) && decide (kindN (cutA t) = 6 ∨ kindN (cutA t) = 7 ∨ kindN (cutA t) = 10)) := by
 by_cases hk : kindN (cutA t) = 6 ∨ kindN (cutA t) = 7 ∨ kindN (cutA t) = 10
 ·rw [decide_eq_true hk, Bool.and_true]
  by_cases h : splitE t = 0
  ·rw [prepB_rest h hk]
   have hkb : keyB (kindN (cutA t)) (cutA (cutB t)) = bndB 97 122 8 (cutA (cutB t)) := keyB_yes (by omega)
   have hvb : valueB (kindN (cutA t)) (cutB (cutB t)) = plainV (kindN (cutA t)) (cutB (cutB t)) := by unfold valueB; rw [if_neg (by omega)]
   have hk1 : ¬ ((kindN (cutA t) : Int) < 1 ∨ 11 < (kindN (cutA t) : Int)) := by omega
   cases h1 : bndB 97 122 8 (cutA (cutB t))
   ·by_cases hl : 60 < t.size
    ·rw [readE_long hl]; rfl
    ·rw [readE_check hl h, checkE_key hk1 (hkb.trans h1)]; rfl
   ·cases h2 : plainV (kindN (cutA t)) (cutB (cutB t))
    ·by_cases hl : 60 < t.size
     ·rw [readE_long hl]; rfl
     ·rw [readE_check hl h, checkE_value hk1 (hvb.trans h2)]; rfl
    ·have hl : ¬ 60 < t.size := by
      have a1 := cut_total t
      have a2 := cut_total (cutB t)
      have a3 := kind_size (t := t) (by omega)
      have a4 := bndB_size h1
      have a5 := plainV_size h2
      omega
     rw [readE_check hl h, checkE_ok hk1 (hkb.trans h1) (hvb.trans h2)]; rfl
  ·rw [prepB_split h]
   by_cases hl : 60 < t.size
   ·rw [readE_long hl]; rfl
   ·rw [readE_split hl h, decide_eq_false h]
 ·rw [prepB_kind hk, decide_eq_false hk, Bool.and_false]
theorem cutF_parts {t : ByteArray} (h : cutF t = false) : cutA (cutB t) = ⟨#[]⟩ ∧ cutB (cutB t) = ⟨#[]⟩ := by
 have h0 : cutI t = t.size := by
  have := cutI_le t
  unfold cutF at h
  simp only [decide_eq_false_iff_not] at h
  omega
 rw [cutB_none h0]
 exact ⟨rfl, rfl⟩
theorem splitBad_none {t : ByteArray} (h : cutF t = false) : splitBad t = false := by
 unfold splitBad; rw [h, cutF_none h]; rfl
theorem splitE_zero {t : ByteArray} (h : kindN (cutA t) ≠ 0) (hb : splitBad t = false) : splitE t = 0 := by
 unfold splitE; rw [if_neg h, hb]; rfl
end Go.Proofs.YtpbaobmegomfpabGreatDoor
namespace Go.Proofs.YtpbaobmegomfpabGreatDoor
open Go.RowKit
theorem empty_of {s : ByteArray} (h : s.size = 0) : s.toList.isEmpty = true := by
 rw [Lib.toList_data, List.isEmpty_iff]
 have : s.data.toList.length = 0 := by simpa using congrArg (fun n => n) (show s.data.size = 0 from h)
 exact List.length_eq_zero_iff.1 this
theorem full_of {s : ByteArray} (h : 1 ≤ s.size) : s.toList.isEmpty = false := by
 cases e : s.toList.isEmpty
 ·rfl
 ·have := isEmpty_size e; omega
theorem wordL_pos : ∀ k, k ≤ 11 → 1 ≤ k → 1 ≤ (wordL k).length := by decide
theorem kind_pos {t : ByteArray} (h : kindN (cutA t) ≠ 0) : 1 ≤ t.size := by
 have h1 := kindN_word (s := cutA t) (by omega)
 have h2 := wordL_pos (kindN (cutA t)) (kindN_le _) (by omega)
 rw [h1] at h2
 have h3 : (cutA t).data.toList.length = (cutA t).size := by simp
 have := cutA_size t
 have := cutI_le t
 omega
theorem prepB_size {v : ByteArray} (h : prepB v = true) : 1 ≤ v.size ∧ v.size ≤ 60 := by
 rw [prepB_read] at h
 simp only [Bool.and_eq_true, decide_eq_true_eq] at h
 refine ⟨kind_pos (by omega), ?_⟩
 by_cases hl : 60 < v.size
 ·rw [readE_long hl] at h; omega
 ·omega
structure Good (k : Int) (key v : ByteArray) : Prop where
 lo : 1 ≤ k
 hi : k ≤ 11
 key8 : key.size ≤ 8
 v60 : v.size ≤ 60
 keyE : key.toList.isEmpty = decide (k < 6)
 vE : v.toList.isEmpty = decide (k < 9)
theorem good_of {k : Int} {key v : ByteArray} (h : checkE k key v = 0) : Good k key v := by
 by_cases hk : k < 1 ∨ 11 < k
 ·rw [checkE_kind hk] at h; cases h
 ·cases h1 : keyB k key
  ·rw [checkE_key hk h1] at h; cases h
  ·cases h2 : valueB k v
   ·rw [checkE_value hk h2] at h; cases h
   ·have a1 : key.size ≤ 8 ∧ key.toList.isEmpty = decide (k < 6) := by
     by_cases h6 : 6 ≤ k ∧ k ≤ 11
     ·rw [keyB_yes h6] at h1
      have := bndB_size h1
      exact ⟨this.2, by rw [full_of this.1, decide_eq_false (by omega)]⟩
     ·rw [keyB_no h6] at h1
      exact ⟨by have := isEmpty_size h1; omega, by rw [h1, decide_eq_true (by omega)]⟩
    have a2 : v.size ≤ 60 ∧ v.toList.isEmpty = decide (k < 9) := by
     by_cases h11 : k = 11
     ·unfold valueB at h2
      rw [if_pos h11] at h2
      have := prepB_size h2
      exact ⟨this.2, by rw [full_of this.1, decide_eq_false (by omega)]⟩
     ·unfold valueB at h2
      rw [if_neg h11] at h2
      by_cases h9 : k = 9 ∨ k = 10
      ·rw [plainV_yes h9] at h2
       have := bndB_size h2
       exact ⟨by omega, by rw [full_of this.1, decide_eq_false (by omega)]⟩
      ·rw [plainV_no h9] at h2
       exact ⟨by have := isEmpty_size h2; omega, by rw [h2, decide_eq_true (by omega)]⟩
    exact ⟨by omega, by omega, a1.1, a2.1, a1.2, a2.2⟩
def textOf (k : Nat) (key v : ByteArray) : ByteArray :=
 if k < 6 then wordAt k else if k < 9 then wordAt k ++ (⟨#[32]⟩ ++ key) else (wordAt k ++ (⟨#[32]⟩ ++ key)) ++ (⟨#[32]⟩ ++ v)
theorem textOf_6 {k : Nat} {key v : ByteArray} (h : k < 6) : textOf k key v = wordAt k := by unfold textOf; rw [if_pos h]
theorem textOf_9 {k : Nat} {key v : ByteArray} (h : ¬ k < 6) (h2 : k < 9) : textOf k key v = wordAt k ++ (⟨#[32]⟩ ++ key) := by unfold textOf; rw [if_neg h, if_pos h2]
theorem textOf_12 {k : Nat} {key v : ByteArray} (h : ¬ k < 9) : textOf k key v = (wordAt k ++ (⟨#[32]⟩ ++ key)) ++ (⟨#[32]⟩ ++ v) := by unfold textOf; rw [if_neg (by omega), if_neg h]
theorem wordAt_size {k : Nat} (h : k ≤ 11) : (wordAt k).size ≤ 8 := by
 have h1 := wordL_len k h
 have h2 : (wordAt k).size = (wordL k).length := by show (wordAt k).data.size = _; simp [wordAt]
 omega
end Go.Proofs.YtpbaobmegomfpabGreatDoor
namespace Go.Proofs.YtpbaobmegomfpabGreatDoor
open Go.RowKit
abbrev PL := List (ByteArray × ByteArray)
def eqB (a b : ByteArray) : Bool := a.toList == b.toList
def ltB (a b : ByteArray) : Bool := Op.bytesLess a.toList b.toList
theorem eqB_iff {a b : ByteArray} : eqB a b = true ↔ a = b := by
 unfold eqB
 rw [beq_iff_eq, Lib.toList_data, Lib.toList_data]
 exact ⟨fun h => ba_ext h, fun h => by rw [h]⟩
theorem eqB_self (a : ByteArray) : eqB a a = true := eqB_iff.2 rfl
theorem bl_irrefl : ∀ l : List UInt8, Op.bytesLess l l = false
 | [] => rfl
 | a :: l => by simp [Op.bytesLess, bl_irrefl l]
theorem bl_trans : ∀ {x y z : List UInt8}, Op.bytesLess x y = true → Op.bytesLess y z = true → Op.bytesLess x z = true
 | [], [], _, h, _ => by simp [Op.bytesLess] at h
 | [], b :: y, [], _, h => by simp [Op.bytesLess] at h
 | [], b :: y, c :: z, _, _ => by simp [Op.bytesLess]
 | a :: x, [], _, h, _ => by simp [Op.bytesLess] at h
 | a :: x, b :: y, [], _, h => by simp [Op.bytesLess] at h
 | a :: x, b :: y, c :: z, h1, h2 => by
  simp only [Op.bytesLess, Bool.or_eq_true, decide_eq_true_eq, Bool.and_eq_true, beq_iff_eq] at h1 h2 ⊢
  rcases h1 with h1 | ⟨rfl, h1⟩
  ·rcases h2 with h2 | ⟨rfl, h2⟩
   ·exact .inl (UInt8.lt_trans h1 h2)
   ·exact .inl h1
  ·rcases h2 with h2 | ⟨rfl, h2⟩
   ·exact .inl h2
   ·exact .inr ⟨rfl, bl_trans h1 h2⟩
theorem bl_total : ∀ {x y : List UInt8}, Op.bytesLess x y = false → Op.bytesLess y x = false → x = y
 | [], [], _, _ => rfl
 | [], b :: y, h, _ => by simp [Op.bytesLess] at h
 | a :: x, [], _, h => by simp [Op.bytesLess] at h
 | a :: x, b :: y, h1, h2 => by
  simp only [Op.bytesLess, Bool.or_eq_false_iff, decide_eq_false_iff_not, Bool.and_eq_false_iff, beq_eq_false_iff_ne] at h1 h2
  have e : a = b := by
   apply UInt8.toNat_inj.1
   have h3 := h1.1
   have h4 := h2.1
   rw [UInt8.lt_iff_toNat_lt] at h3 h4
   omega
  subst e
  rw [bl_total (h1.2.resolve_left (by simp)) (h2.2.resolve_left (by simp))]
theorem ltB_irrefl (a : ByteArray) : ltB a a = false := bl_irrefl _
theorem ltB_trans {a b c : ByteArray} (h1 : ltB a b = true) (h2 : ltB b c = true) : ltB a c = true := bl_trans h1 h2
theorem ltB_total {a b : ByteArray} (h1 : ltB a b = false) (h2 : ltB b a = false) : a = b := by
 have := bl_total h1 h2
 rw [Lib.toList_data, Lib.toList_data] at this
 exact ba_ext this
theorem ltB_ne {a b : ByteArray} (h : ltB a b = true) : a ≠ b := fun e => by rw [e, ltB_irrefl] at h; cases h
theorem ltB_asymm {a b : ByteArray} (h : ltB a b = true) : ltB b a = false := by
 cases e : ltB b a
 ·rfl
 ·have := ltB_trans h e; rw [ltB_irrefl] at this; cases this
def atL : PL → ByteArray → Option ByteArray
 | [], _ => none
 | p :: l, k => if eqB p.1 k then some p.2 else atL l k
def plusGo (k v : ByteArray) : Bool → PL → PL
 | done, [] => if done then [] else [(k, v)]
 | done, p :: l => (if !done && !ltB p.1 k then [(k, v)] else []) ++ ((if eqB p.1 k then [] else [p]) ++ plusGo k v (done || !ltB p.1 k) l)
def plusL (l : PL) (k v : ByteArray) : PL := plusGo k v false l
def risingB : PL → Bool
 | [] => true
 | [_] => true
 | p :: q :: l => ltB p.1 q.1 && risingB (q :: l)
def pairsB (l : PL) (most : Nat) (kind : Int) : Bool := (l.all fun p => decide (checkE kind p.1 p.2 = 0)) && (risingB l && decide (l.length ≤ most))
structure Sess where
 st : Int
 set : PL
 prep : PL
 sav : PL
 wr : PL
structure Wd where
 rows : PL
 ss : List Sess
end Go.Proofs.YtpbaobmegomfpabGreatDoor
namespace Go.Proofs.YtpbaobmegomfpabGreatDoor
open Go.RowKit
structure Lst (w : World) (B : Nat) (v : Value) (l : PL) : Prop where
 form : ∃ A c, v = .slice A l.length c ∧ l.length ≤ c
 bytes : l.length * 32 ≤ 140737488351232
 sizes : ∀ p ∈ l, p.1.size ≤ 140737488351232 ∧ p.2.size ≤ 140737488351232
 cells : 0 < l.length → ∃ b off c, v = .slice (some ⟨b, off, none⟩) l.length c ∧ b < B ∧
  ∀ i (h : i < l.length), w.cell? ⟨b, off + i * 2, none⟩ = some (.string l[i].1) ∧ w.cell? ⟨b, off + i * 2 + 1, none⟩ = some (.string l[i].2)
 nil : ∀ n c, v = .slice none n c → c = 0
theorem Lst.keep {w w' : World} {B B' : Nat} {v : Value} {l : PL} (h : Lst w B v l) (hB : B ≤ B') (hk : ∀ p : Addr, p.block < B → w'.cell? p = w.cell? p) : Lst w' B' v l := by
 refine ⟨h.form, h.bytes, h.sizes, fun hn => ?_, h.nil⟩
 obtain ⟨b, off, c, e, hb, hc⟩ := h.cells hn
 exact ⟨b, off, c, e, by omega, fun i hi => ⟨(hk _ hb).trans (hc i hi).1, (hk _ hb).trans (hc i hi).2⟩⟩
theorem Lst.below {w w' : World} {B : Nat} {v : Value} {l : PL} (h : Lst w B v l) (hb : Below B w w') : Lst w' B v l := h.keep (nL _) fun _ hp => hb.cell hp
theorem Lst.more {w : World} {B B' : Nat} {v : Value} {l : PL} (h : Lst w B v l) (hB : B ≤ B') : Lst w B' v l := h.keep hB fun _ _ => rfl
theorem Lst.alloc {w : World} {B : Nat} {v : Value} {l : PL} (h : Lst w B v l) (hB : B ≤ w.heap.size) (o : Obj) : Lst (w.alloc o) B v l := h.keep (nL _) fun p hp => World.cell?_alloc_lt w o p (by omega)
theorem Lst.drew {w : World} {B : Nat} {v : Value} {l : PL} (h : Lst w B v l) : Lst w.drew B v l := h.keep (nL _) fun _ _ => rfl
theorem Lst.drewN {w : World} {B : Nat} {v : Value} {l : PL} (h : Lst w B v l) (k : Nat) : Lst (w.drewN k) B v l := h.keep (nL _) fun _ _ => rfl
theorem Lst.setCell {w : World} {B : Nat} {v : Value} {l : PL} (h : Lst w B v l) {p : Addr} (hB : B ≤ p.block) (u : Value) : Lst (w.setCell p u) B v l :=
 h.keep (nL _) fun q hq => World.cell?_setCell_other w p q u (fun e => by subst e; omega)
theorem Lst.at {w : World} {B : Nat} {v : Value} {l : PL} (h : Lst w B v l) {k : Nat} (hk : k < l.length) :
  ∃ b off c, v = .slice (some ⟨b, off, none⟩) l.length c ∧ b < B ∧ w.cell? ⟨b, off + k * 2, none⟩ = some (.string l[k].1) ∧ w.cell? ⟨b, off + k * 2 + 1, none⟩ = some (.string l[k].2) := by
 obtain ⟨b, off, c, e, hb, hc⟩ := h.cells (by omega)
 exact ⟨b, off, c, e, hb, (hc k hk).1, (hc k hk).2⟩
theorem Lst.key {w : World} {B : Nat} {v : Value} {l : PL} (h : Lst w B v l) {k : Nat} (hk : k < l.length) : l[k].1.size ≤ 140737488351232 ∧ l[k].2.size ≤ 140737488351232 := h.sizes _ (List.getElem_mem hk)
theorem Lst.pt {w : World} {B n c : Nat} {A : Option Addr} {l : PL} (h : Lst w B (.slice A n c) l) {k : Nat} (hk : k < l.length) :
  ∃ b off, A = some ⟨b, off, none⟩ ∧ b < B ∧ w.cell? ⟨b, off + k * 2, none⟩ = some (.string l[k].1) ∧ w.cell? ⟨b, off + k * 2 + 1, none⟩ = some (.string l[k].2) := by
 obtain ⟨b, off, c', e, hb, hc⟩ := h.at hk
 injection e with e1 e2 e3
 exact ⟨b, off, e1, hb, hc⟩
end Go.Proofs.YtpbaobmegomfpabGreatDoor
namespace Go.Proofs.YtpbaobmegomfpabGreatDoor
open Go.RowKit
def RowTo (w : World) (g t n : Nat) (xs : List Value) : Prop := ∃ cur : Array Value, w.heap[g]? = some (.cells cur t (0, 0)) ∧ cur.size = n ∧ cur.toList.take xs.length = xs
section
variable {w w' : World} {g t n B : Nat} {xs : List Value}
theorem RowTo.len (h : RowTo w g t n xs) : xs.length ≤ n := by
 obtain ⟨cur, _, hs, hx⟩ := h
 have := congrArg List.length hx
 simp at this
 omega
theorem RowTo.lt (h : RowTo w g t n xs) : g < w.heap.size := by
 obtain ⟨cur, hh, _⟩ := h
 exact (Array.getElem?_eq_some_iff.1 hh).1
theorem RowTo.same (h : RowTo w g t n xs) (e : w'.heap[g]? = w.heap[g]?) : RowTo w' g t n xs := by
 obtain ⟨cur, hh, r⟩ := h
 exact ⟨cur, e.trans hh, r⟩
theorem RowTo.below (h : RowTo w g t n xs) (hb : Below B w w') (hg : g < B) : RowTo w' g t n xs := h.same (hb.block g hg)
theorem RowTo.alloc (h : RowTo w g t n xs) (o : Obj) : RowTo (w.alloc o) g t n xs := h.same (Below.heap_alloc _ _ _ h.lt)
theorem RowTo.drew (h : RowTo w g t n xs) : RowTo w.drew g t n xs := h
theorem RowTo.drewN (h : RowTo w g t n xs) (k : Nat) : RowTo (w.drewN k) g t n xs := h
theorem RowTo.other (h : RowTo w g t n xs) {p : Addr} (hp : p.block ≠ g) (u : Value) : RowTo (w.setCell p u) g t n xs := h.same (Below.heap_setCell _ _ _ _ (fun e => hp e.symm))
theorem RowTo.cell (h : RowTo w g t n xs) {j : Nat} (hj : j < xs.length) : w.cell? ⟨g, j, none⟩ = some xs[j] := by
 obtain ⟨cur, hh, hs, hx⟩ := h
 unfold World.cell?
 simp only [hh]
 have e : cur[j]? = cur.toList[j]? := by simp
 show cur[j]? = _
 rw [e]
 have : cur.toList[j]? = (cur.toList.take xs.length)[j]? := by rw [List.getElem?_take, if_pos hj]
 rw [this, hx, List.getElem?_eq_getElem hj]
theorem RowTo.any (h : RowTo w g t n xs) {j : Nat} (hj : j < n) : ∃ u, w.cell? ⟨g, j, none⟩ = some u := by
 obtain ⟨cur, hh, hs, hx⟩ := h
 refine ⟨cur[j]'(by omega), ?_⟩
 unfold World.cell?
 simp only [hh]
 show cur[j]? = _
 rw [Array.getElem?_eq_getElem (by omega)]
theorem RowTo.frozen (h : RowTo w g t n xs) (j : Nat) : w.frozen? ⟨g, j, none⟩ = false := by
 obtain ⟨cur, hh, hs, hx⟩ := h
 unfold World.frozen?
 simp [hh]
theorem RowTo.push (h : RowTo w g t n xs) (hl : xs.length < n) (u : Value) {j : Nat} (hj : j = xs.length) : RowTo (w.setCell ⟨g, j, none⟩ u) g t n (xs ++ [u]) := by
 subst hj
 have hlt := h.lt
 obtain ⟨cur, hh, hs, hx⟩ := h
 refine ⟨cur.setIfInBounds xs.length u, ?_, by simpa using hs, ?_⟩
 ·simp [World.setCell, Array.getElem?_modify, hh]
 ·rw [Array.toList_setIfInBounds, List.length_append, List.length_singleton, List.take_add_one, List.getElem?_set, if_pos rfl, List.take_set_of_le (nL _), hx, if_pos (by simp; omega)]
  rfl
theorem RowTo.put (h : RowTo w g t n xs) {j : Nat} (hj : j < xs.length) (u : Value) : RowTo (w.setCell ⟨g, j, none⟩ u) g t n (xs.set j u) := by
 obtain ⟨cur, hh, hs, hx⟩ := h
 refine ⟨cur.setIfInBounds j u, ?_, by simpa using hs, ?_⟩
 ·simp [World.setCell, Array.getElem?_modify, hh]
 ·rw [Array.toList_setIfInBounds, List.length_set, List.take_set, hx]
theorem RowTo.new (w : World) (cs : Array Value) (t : TypeId) : RowTo (w.alloc (.cells cs t)) w.heap.size t cs.size [] :=
 ⟨cs, heap_alloc_new w _, rfl, rfl⟩
theorem RowTo.whole (w : World) (cs : Array Value) (t : TypeId) : RowTo (w.alloc (.cells cs t)) w.heap.size t cs.size cs.toList :=
 ⟨cs, heap_alloc_new w _, rfl, by rw [List.take_of_length_le (by simp)]⟩
theorem RowTo.front (h : RowTo w g t n xs) (k : Nat) : RowTo w g t n (xs.take k) := by
 obtain ⟨cur, hh, hs, hx⟩ := h
 refine ⟨cur, hh, hs, ?_⟩
 rw [List.length_take, ← List.take_take, hx]
end
def flat (l : PL) : List Value := l.flatMap fun p => [.string p.1, .string p.2]
theorem flat_nil : flat [] = [] := rfl
theorem flat_cons (p : ByteArray × ByteArray) (l : PL) : flat (p :: l) = .string p.1 :: .string p.2 :: flat l := rfl
theorem flat_append (l m : PL) : flat (l ++ m) = flat l ++ flat m := by unfold flat; rw [List.flatMap_append]
theorem flat_length (l : PL) : (flat l).length = l.length * 2 := by
 induction l with
 | nil => rfl
 | cons p l ih => rw [flat_cons]; simp only [List.length_cons, ih]; omega
theorem flat_fst : ∀ (l : PL) (i : Nat) (h : i < l.length), (flat l)[i * 2]? = some (.string l[i].1)
 | p :: l, 0, h => rfl
 | p :: l, i + 1, h => by rw [flat_cons, show (i + 1) * 2 = i * 2 + 1 + 1 by omega]; simpa using flat_fst l i (by simpa using h)
theorem flat_snd : ∀ (l : PL) (i : Nat) (h : i < l.length), (flat l)[i * 2 + 1]? = some (.string l[i].2)
 | p :: l, 0, h => rfl
 | p :: l, i + 1, h => by rw [flat_cons, show (i + 1) * 2 + 1 = i * 2 + 1 + 1 + 1 by omega]; simpa using flat_snd l i (by simpa using h)
theorem flat_take (l : PL) (k : Nat) : flat (l.take k) = (flat l).take (k * 2) := by
 induction l generalizing k with
 | nil => simp [flat_nil]
 | cons p l ih =>
  cases k with
  | zero => simp [flat_nil]
  | succ k => rw [List.take_succ_cons, flat_cons, flat_cons, ih, show (k + 1) * 2 = k * 2 + 1 + 1 by omega]; rfl
theorem flat_step (l : PL) (k : Nat) (h : k < l.length) : flat (l.take (k + 1)) = flat (l.take k) ++ [.string l[k].1] ++ [.string l[k].2] := by
 rw [List.take_succ_eq_append_getElem h, flat_append]; simp [flat]
theorem RowTo.lst {w : World} {g t n c B : Nat} {l : PL} (h : RowTo w g t n (flat l)) (hc : l.length ≤ c) (hB : g < B) (hby : l.length * 32 ≤ 140737488351232) (hs : ∀ p ∈ l, p.1.size ≤ 140737488351232 ∧ p.2.size ≤ 140737488351232) :
  Lst w B (.slice (some ⟨g, 0, none⟩) l.length c) l := by
 refine ⟨⟨_, c, rfl, hc⟩, hby, hs, fun _ => ⟨g, 0, c, rfl, hB, fun i hi => ⟨?_, ?_⟩⟩, fun n c h => by cases h⟩
 ·have h1 := h.cell (j := i * 2) (by rw [flat_length]; omega)
  have h2 := flat_fst l i hi
  rw [List.getElem?_eq_getElem (by rw [flat_length]; omega)] at h2
  rw [Nat.zero_add, h1, h2]
 ·have h1 := h.cell (j := i * 2 + 1) (by rw [flat_length]; omega)
  have h2 := flat_snd l i hi
  rw [List.getElem?_eq_getElem (by rw [flat_length]; omega)] at h2
  rw [Nat.zero_add, h1, h2]
theorem flat_one (l : PL) : ∀ u ∈ flat l, u.oneCell' = true := by
 intro u hu
 unfold flat at hu
 rw [List.mem_flatMap] at hu
 obtain ⟨p, _, hp⟩ := hu
 simp only [List.mem_cons, List.not_mem_nil, or_false] at hp
 rcases hp with rfl | rfl <;> rfl
theorem bel_add' {B : Nat} {a b c : World} (h : Below B a b) (k : Below b.heap.size b c) (hB : B ≤ b.heap.size) : Below B a c := h.trans (k.mono hB)
end Go.Proofs.YtpbaobmegomfpabGreatDoor
namespace Go.Proofs.YtpbaobmegomfpabGreatDoor
open Go.RowKit
structure Ses (w : World) (B b o : Nat) (s : Sess) (v1 v2 v3 v4 : Value) : Prop where
 c0 : w.cell? ⟨b, o, none⟩ = some (.int .i64 s.st)
 c1 : w.cell? ⟨b, o + 1, none⟩ = some v1
 c2 : w.cell? ⟨b, o + 2, none⟩ = some v2
 c3 : w.cell? ⟨b, o + 3, none⟩ = some v3
 c4 : w.cell? ⟨b, o + 4, none⟩ = some v4
 l1 : Lst w B v1 s.set
 l2 : Lst w B v2 s.prep
 l3 : Lst w B v3 s.sav
 l4 : Lst w B v4 s.wr
theorem Ses.keep {w w' : World} {B B' b o : Nat} {s : Sess} {v1 v2 v3 v4 : Value} (h : Ses w B b o s v1 v2 v3 v4) (hb : b < B) (hB : B ≤ B') (hk : ∀ p : Addr, p.block < B → w'.cell? p = w.cell? p) : Ses w' B' b o s v1 v2 v3 v4 :=
 ⟨(hk _ hb).trans h.c0, (hk _ hb).trans h.c1, (hk _ hb).trans h.c2, (hk _ hb).trans h.c3, (hk _ hb).trans h.c4, h.l1.keep hB hk, h.l2.keep hB hk, h.l3.keep hB hk, h.l4.keep hB hk⟩
structure Sss (w : World) (B : Nat) (v : Value) (ss : List Sess) : Prop where
 form : ∃ A c, v = .slice A ss.length c ∧ ss.length ≤ c
 bytes : ss.length * 104 ≤ 140737488351232
 cells : 0 < ss.length → ∃ b off c, v = .slice (some ⟨b, off, none⟩) ss.length c ∧ b < B ∧
  ∀ i (h : i < ss.length), ∃ v1 v2 v3 v4, Ses w B b (off + i * 5) ss[i] v1 v2 v3 v4
theorem Sss.keep {w w' : World} {B B' : Nat} {v : Value} {ss : List Sess} (h : Sss w B v ss) (hB : B ≤ B') (hk : ∀ p : Addr, p.block < B → w'.cell? p = w.cell? p) : Sss w' B' v ss := by
 refine ⟨h.form, h.bytes, fun hn => ?_⟩
 obtain ⟨b, off, c, e, hb, hc⟩ := h.cells hn
 refine ⟨b, off, c, e, by omega, fun i hi => ?_⟩
 obtain ⟨v1, v2, v3, v4, hs⟩ := hc i hi
 exact ⟨v1, v2, v3, v4, hs.keep hb hB hk⟩
theorem Sss.below {w w' : World} {B : Nat} {v : Value} {l : List Sess} (h : Sss w B v l) (hb : Below B w w') : Sss w' B v l := h.keep (nL _) fun _ hp => hb.cell hp
theorem Sss.more {w : World} {B B' : Nat} {v : Value} {l : List Sess} (h : Sss w B v l) (hB : B ≤ B') : Sss w B' v l := h.keep hB fun _ _ => rfl
theorem Sss.alloc {w : World} {B : Nat} {v : Value} {l : List Sess} (h : Sss w B v l) (hB : B ≤ w.heap.size) (o : Obj) : Sss (w.alloc o) B v l := h.keep (nL _) fun p hp => World.cell?_alloc_lt w o p (by omega)
theorem Sss.pt {w : World} {B n c : Nat} {A : Option Addr} {ss : List Sess} (h : Sss w B (.slice A n c) ss) {k : Nat} (hk : k < ss.length) :
  ∃ b off v1 v2 v3 v4, A = some ⟨b, off, none⟩ ∧ b < B ∧ Ses w B b (off + k * 5) ss[k] v1 v2 v3 v4 := by
 obtain ⟨b, off, c', e, hb, hc⟩ := h.cells (by omega)
 injection e with e1 e2 e3
 obtain ⟨v1, v2, v3, v4, hs⟩ := hc k hk
 exact ⟨b, off, v1, v2, v3, v4, e1, hb, hs⟩
structure Wld (w : World) (B : Nat) (r s : Value) (W : Wd) : Prop where
 rows : Lst w B r W.rows
 sess : Sss w B s W.ss
theorem Wld.keep {w w' : World} {B B' : Nat} {r s : Value} {W : Wd} (h : Wld w B r s W) (hB : B ≤ B') (hk : ∀ p : Addr, p.block < B → w'.cell? p = w.cell? p) : Wld w' B' r s W := ⟨h.rows.keep hB hk, h.sess.keep hB hk⟩
theorem Wld.below {w w' : World} {B : Nat} {r s : Value} {W : Wd} (h : Wld w B r s W) (hb : Below B w w') : Wld w' B r s W := h.keep (nL _) fun _ hp => hb.cell hp
theorem Wld.more {w : World} {B B' : Nat} {r s : Value} {W : Wd} (h : Wld w B r s W) (hB : B ≤ B') : Wld w B' r s W := h.keep hB fun _ _ => rfl
theorem Wld.step {w w' : World} {r s : Value} {W : Wd} (h : Wld w w.heap.size r s W) (hb : Below w.heap.size w w') : Wld w' w'.heap.size r s W := (h.below hb).more hb.size
theorem Lst.step {w w' : World} {v : Value} {l : PL} (h : Lst w w.heap.size v l) (hb : Below w.heap.size w w') : Lst w' w'.heap.size v l := (h.below hb).more hb.size
theorem Sss.step {w w' : World} {v : Value} {l : List Sess} (h : Sss w w.heap.size v l) (hb : Below w.heap.size w w') : Sss w' w'.heap.size v l := (h.below hb).more hb.size
def sl (g n : Nat) : Value := .slice (some ⟨g, 0, none⟩) n n
def set5 (w : World) (S o : Nat) (a0 a1 a2 a3 a4 : Value) : World :=
 ((((w.setCell ⟨S, o, none⟩ a0).setCell ⟨S, o + 1, none⟩ a1).setCell ⟨S, o + 2, none⟩ a2).setCell ⟨S, o + 3, none⟩ a3).setCell ⟨S, o + 4, none⟩ a4
theorem cell_put {w : World} {g t n : Nat} {xs : List Value} (h : RowTo w g t n xs) {j : Nat} (hj : j < n) (u : Value) : (w.setCell ⟨g, j, none⟩ u).cell? ⟨g, j, none⟩ = some u := by
 obtain ⟨x, hx⟩ := h.any hj
 simp [go_sem, hx]
theorem cell_off {w : World} {g j i : Nat} (u : Value) (h : i ≠ j) : (w.setCell ⟨g, j, none⟩ u).cell? ⟨g, i, none⟩ = w.cell? ⟨g, i, none⟩ :=
 World.cell?_setCell_other _ _ _ _ (fun e => h (by injection e with e1 e2; exact e2.symm))
theorem RowTo.nil {w : World} {g t n : Nat} {xs : List Value} (h : RowTo w g t n xs) : RowTo w g t n [] := h.front 0
theorem RowTo.hit {w : World} {g t n j : Nat} (h : RowTo w g t n []) (u : Value) : RowTo (w.setCell ⟨g, j, none⟩ u) g t n [] := by
 obtain ⟨cur, hh, hs, hx⟩ := h
 refine ⟨cur.setIfInBounds j u, ?_, by simpa using hs, rfl⟩
 simp [World.setCell, Array.getElem?_modify, hh]
section
variable {w : World} {S o t n : Nat} {a0 a1 a2 a3 a4 : Value}
theorem set5_row (h : RowTo w S t n []) : RowTo (set5 w S o a0 a1 a2 a3 a4) S t n [] := ((((h.hit _).hit _).hit _).hit _).hit _
theorem set5_other {g t n : Nat} {xs : List Value} (h : RowTo w g t n xs) (hne : S ≠ g) : RowTo (set5 w S o a0 a1 a2 a3 a4) g t n xs := ((((h.other hne _).other hne _).other hne _).other hne _).other hne _
theorem set5_cells (h : RowTo w S t n []) (ho : o + 4 < n) : (set5 w S o a0 a1 a2 a3 a4).cell? ⟨S, o, none⟩ = some a0 ∧ (set5 w S o a0 a1 a2 a3 a4).cell? ⟨S, o + 1, none⟩ = some a1 ∧ (set5 w S o a0 a1 a2 a3 a4).cell? ⟨S, o + 2, none⟩ = some a2 ∧
  (set5 w S o a0 a1 a2 a3 a4).cell? ⟨S, o + 3, none⟩ = some a3 ∧ (set5 w S o a0 a1 a2 a3 a4).cell? ⟨S, o + 4, none⟩ = some a4 := by
 unfold set5
 refine ⟨?_, ?_, ?_, ?_, cell_put (xs := []) ((((h.hit _).hit _).hit _).hit _) (by omega) _⟩
 ·rw [cell_off _ (by omega), cell_off _ (by omega), cell_off _ (by omega), cell_off _ (by omega)]; exact cell_put h (by omega) _
 ·rw [cell_off _ (by omega), cell_off _ (by omega), cell_off _ (by omega)]; exact cell_put (h.hit _) (by omega) _
 ·rw [cell_off _ (by omega), cell_off _ (by omega)]; exact cell_put ((h.hit _).hit _) (by omega) _
 ·rw [cell_off _ (by omega)]; exact cell_put (((h.hit _).hit _).hit _) (by omega) _
theorem set5_off {i : Nat} (h : i < o ∨ o + 4 < i) : (set5 w S o a0 a1 a2 a3 a4).cell? ⟨S, i, none⟩ = w.cell? ⟨S, i, none⟩ := by
 unfold set5
 rw [cell_off _ (by omega), cell_off _ (by omega), cell_off _ (by omega), cell_off _ (by omega), cell_off _ (by omega)]
theorem set5_below {B : Nat} {a : World} (h : Below B a w) (hS : B ≤ S) : Below B a (set5 w S o a0 a1 a2 a3 a4) := ((((h.setCell hS _).setCell hS _).setCell hS _).setCell hS _).setCell hS _
theorem set5_cell {p : Addr} (h : p.block ≠ S) : (set5 w S o a0 a1 a2 a3 a4).cell? p = w.cell? p := by
 unfold set5
 rw [World.cell?_setCell_other _ _ _ _ (fun e => h (by rw [← e])), World.cell?_setCell_other _ _ _ _ (fun e => h (by rw [← e])), World.cell?_setCell_other _ _ _ _ (fun e => h (by rw [← e])), World.cell?_setCell_other _ _ _ _ (fun e => h (by rw [← e])), World.cell?_setCell_other _ _ _ _ (fun e => h (by rw [← e]))]
end
def Sess.li (s : Sess) : Nat → PL
 | 0 => s.set
 | 1 => s.prep
 | 2 => s.sav
 | _ => s.wr
structure OwnS (w : World) (base S n : Nat) (G : Nat → Nat → Nat) (ss : List Sess) (k : Nat) : Prop where
 blk : RowTo w S 115 (n * 5) []
 st : ∀ i (h : i < ss.length), i < k → w.cell? ⟨S, i * 5, none⟩ = some (.int .i64 ss[i].st)
 cs : ∀ i j (h : i < ss.length), i < k → j < 4 → w.cell? ⟨S, i * 5 + (j + 1), none⟩ = some (sl (G i j) (ss[i].li j).length)
 ls : ∀ i j (h : i < ss.length), i < k → j < 4 → RowTo w (G i j) 60 ((ss[i].li j).length * 2) (flat (ss[i].li j))
 lo : ∀ i j, i < k → j < 4 → base ≤ G i j
 ne : ∀ i j, i < k → j < 4 → G i j ≠ S
 inj : ∀ i j i' j', i < k → j < 4 → i' < k → j' < 4 → G i j = G i' j' → i = i' ∧ j = j'
def pick4 (g0 g1 g2 g3 : Nat) : Nat → Nat
 | 0 => g0
 | 1 => g1
 | 2 => g2
 | _ => g3
theorem j4 {j : Nat} (h : j < 4) : j = 0 ∨ j = 1 ∨ j = 2 ∨ j = 3 := by omega
theorem OwnS.step {wr w3 : World} {base S n k : Nat} {G : Nat → Nat → Nat} {ss : List Sess} (h : OwnS wr base S n G ss k) (hk : k < ss.length) (hn : ss.length = n) (hb : base ≤ wr.heap.size) (kb : Below wr.heap.size wr w3) {g0 g1 g2 g3 : Nat}
  (r0 : RowTo w3 g0 60 (ss[k].set.length * 2) (flat ss[k].set)) (r1 : RowTo w3 g1 60 (ss[k].prep.length * 2) (flat ss[k].prep))
  (r2 : RowTo w3 g2 60 (ss[k].sav.length * 2) (flat ss[k].sav)) (r3 : RowTo w3 g3 60 (ss[k].wr.length * 2) (flat ss[k].wr))
  (q0 : wr.heap.size ≤ g0) (q1 : g0 < g1) (q2 : g1 < g2) (q3 : g2 < g3) :
  OwnS (set5 w3 S (k * 5) (.int .i64 ss[k].st) (sl g0 ss[k].set.length) (sl g1 ss[k].prep.length) (sl g2 ss[k].sav.length) (sl g3 ss[k].wr.length)) base S n (fun i j => if i = k then pick4 g0 g1 g2 g3 j else G i j) ss (k + 1) := by
 have hS := h.blk.lt
 have b3 : RowTo w3 S 115 (n * 5) [] := h.blk.below kb hS
 have hc := set5_cells (a0 := .int .i64 ss[k].st) (a1 := sl g0 ss[k].set.length) (a2 := sl g1 ss[k].prep.length) (a3 := sl g2 ss[k].sav.length) (a4 := sl g3 ss[k].wr.length) b3 (o := k * 5) (by omega)
 refine ⟨set5_row b3, fun i hi hik => ?_, fun i j hi hik hj => ?_, fun i j hi hik hj => ?_, fun i j hik hj => ?_, fun i j hik hj => ?_, fun i j i' j' hik hj hik' hj' e => ?_⟩
 ·by_cases e : i = k
  ·subst e; exact hc.1
  ·rw [set5_off (by omega), kb.cell (p := ⟨S, i * 5, none⟩) hS]; exact h.st i hi (by omega)
 ·by_cases e : i = k
  ·subst e
   simp only [if_pos]
   rcases j4 hj with rfl | rfl | rfl | rfl
   ·exact hc.2.1
   ·exact hc.2.2.1
   ·exact hc.2.2.2.1
   ·exact hc.2.2.2.2
  ·simp only [if_neg e]
   rw [set5_off (by omega), kb.cell (p := ⟨S, i * 5 + (j + 1), none⟩) hS]; exact h.cs i j hi (by omega) hj
 ·by_cases e : i = k
  ·subst e
   simp only [if_pos]
   rcases j4 hj with rfl | rfl | rfl | rfl
   ·exact set5_other r0 (by show S ≠ g0; omega)
   ·exact set5_other r1 (by show S ≠ g1; omega)
   ·exact set5_other r2 (by show S ≠ g2; omega)
   ·exact set5_other r3 (by show S ≠ g3; omega)
  ·simp only [if_neg e]
   have h1 := h.ls i j hi (by omega) hj
   exact set5_other (h1.below kb h1.lt) (fun e' => h.ne i j (by omega) hj e'.symm)
 ·by_cases e : i = k
  ·simp only [if_pos e]; rcases j4 hj with rfl | rfl | rfl | rfl <;> simp only [pick4] <;> omega
  ·simp only [if_neg e]; exact h.lo i j (by omega) hj
 ·by_cases e : i = k
  ·simp only [if_pos e]; rcases j4 hj with rfl | rfl | rfl | rfl <;> simp only [pick4] <;> omega
  ·simp only [if_neg e]; exact h.ne i j (by omega) hj
 ·have old : ∀ a b, a < k → b < 4 → G a b < wr.heap.size := fun a b ha hb => (h.ls a b (by omega) ha hb).lt
  by_cases e1 : i = k <;> by_cases e2 : i' = k
  ·simp only [if_pos e1, if_pos e2] at e
   refine ⟨by omega, ?_⟩
   rcases j4 hj with rfl | rfl | rfl | rfl <;> rcases j4 hj' with rfl | rfl | rfl | rfl <;> simp only [pick4] at e <;> omega
  ·simp only [if_pos e1, if_neg e2] at e
   have := old i' j' (by omega) hj'
   rcases j4 hj with rfl | rfl | rfl | rfl <;> simp only [pick4] at e <;> omega
  ·simp only [if_neg e1, if_pos e2] at e
   have := old i j (by omega) hj
   rcases j4 hj' with rfl | rfl | rfl | rfl <;> simp only [pick4] at e <;> omega
  ·simp only [if_neg e1, if_neg e2] at e
   exact h.inj i j i' j' (by omega) hj (by omega) hj' e
theorem OwnS.kept {w w' : World} {base S n k : Nat} {G : Nat → Nat → Nat} {ss : List Sess} (h : OwnS w base S n G ss k) (hk : k ≤ ss.length) (kb : Below w.heap.size w w') : OwnS w' base S n G ss k := by
 have hS := h.blk.lt
 refine ⟨h.blk.below kb hS, fun i hi hik => (kb.cell (p := ⟨S, i * 5, none⟩) hS).trans (h.st i hi hik), fun i j hi hik hj => (kb.cell (p := ⟨S, i * 5 + (j + 1), none⟩) hS).trans (h.cs i j hi hik hj), fun i j hi hik hj => ?_, h.lo, h.ne, h.inj⟩
 have := h.ls i j hi hik hj
 exact this.below kb this.lt
end Go.Proofs.YtpbaobmegomfpabGreatDoor
namespace Go.Proofs.YtpbaobmegomfpabGreatDoor
open Go.RowKit
theorem eqB_false {a b : ByteArray} : eqB a b = false ↔ a ≠ b := by
 rw [← Bool.not_eq_true, eqB_iff]
theorem risingB_iff : ∀ {l : PL}, risingB l = true ↔ ∀ j (h : j + 1 < l.length), ltB l[j].1 l[j + 1].1 = true
 | [] => by simp [risingB]
 | [p] => by simp [risingB]
 | p :: q :: l => by
  unfold risingB
  rw [Bool.and_eq_true, risingB_iff]
  constructor
  ·rintro ⟨h0, h1⟩ j hj
   cases j with
   | zero => exact h0
   | succ j => exact h1 j (by simpa using hj)
  ·intro h
   exact ⟨h 0 (by simp), fun j hj => h (j + 1) (by simpa using hj)⟩
theorem rising_tail {p : ByteArray × ByteArray} {l : PL} (h : risingB (p :: l) = true) : risingB l = true := by
 cases l with
 | nil => rfl
 | cons q l => unfold risingB at h; rw [Bool.and_eq_true] at h; exact h.2
theorem rising_head : ∀ {l : PL} {p : ByteArray × ByteArray}, risingB (p :: l) = true → ∀ q ∈ l, ltB p.1 q.1 = true
 | q0 :: l, p, h, q, hq => by
  have h' := h
  unfold risingB at h'
  rw [Bool.and_eq_true] at h'
  rcases List.mem_cons.1 hq with rfl | hq
  ·exact h'.1
  ·exact ltB_trans h'.1 (rising_head h'.2 q hq)
theorem rising_cons {l : PL} {p : ByteArray × ByteArray} (h : risingB l = true) (hp : ∀ q ∈ l, ltB p.1 q.1 = true) : risingB (p :: l) = true := by
 cases l with
 | nil => rfl
 | cons q l => unfold risingB; rw [hp q (by simp), h]; rfl
theorem rising_lt {l : PL} (h : risingB l = true) : ∀ i j (hi : i < j) (hj : j < l.length), ltB (l[i]'(by omega)).1 l[j].1 = true := by
 intro i j hi hj
 induction j with
 | zero => omega
 | succ j ih =>
  have h1 := (risingB_iff.1 h) j hj
  by_cases e : i = j
  ·subst e; exact h1
  ·exact ltB_trans (ih (by omega) (by omega)) h1
theorem pairsB_yes {l : PL} {most : Nat} {kind : Int} (h1 : ∀ j (h : j < l.length), checkE kind l[j].1 l[j].2 = 0) (h2 : ∀ j (h : j + 1 < l.length), ltB l[j].1 l[j + 1].1 = true) (h3 : l.length ≤ most) : pairsB l most kind = true := by
 unfold pairsB
 rw [risingB_iff.2 h2, decide_eq_true h3, Bool.and_true, Bool.and_true, List.all_eq_true]
 intro p hp
 obtain ⟨j, hj, rfl⟩ := List.getElem_of_mem hp
 exact decide_eq_true (h1 j hj)
theorem pairsB_long {l : PL} {most : Nat} {kind : Int} (h : ¬ l.length ≤ most) : pairsB l most kind = false := by
 unfold pairsB; rw [decide_eq_false h]; simp
theorem pairsB_bad {l : PL} {most : Nat} {kind : Int} {j : Nat} (hj : j < l.length) (h : checkE kind l[j].1 l[j].2 ≠ 0) : pairsB l most kind = false := by
 unfold pairsB
 have : (l.all fun p => decide (checkE kind p.1 p.2 = 0)) = false := by
  rw [List.all_eq_false]
  exact ⟨l[j], List.getElem_mem hj, by simpa using h⟩
 rw [this]; rfl
theorem pairsB_fall {l : PL} {most : Nat} {kind : Int} {j : Nat} (hj : j + 1 < l.length) (h : ltB l[j].1 l[j + 1].1 = false) : pairsB l most kind = false := by
 unfold pairsB
 have : risingB l = false := by
  rw [← Bool.not_eq_true]
  intro hr
  have := risingB_iff.1 hr j hj
  rw [h] at this; cases this
 rw [this]; simp
theorem pairsB_rising {l : PL} {most : Nat} {kind : Int} (h : pairsB l most kind = true) : risingB l = true ∧ l.length ≤ most ∧ ∀ p ∈ l, checkE kind p.1 p.2 = 0 := by
 unfold pairsB at h
 simp only [Bool.and_eq_true, decide_eq_true_eq, List.all_eq_true] at h
 exact ⟨h.2.1, h.2.2, h.1⟩
def insL : PL → ByteArray → ByteArray → PL
 | [], k, v => [(k, v)]
 | p :: l, k, v => if ltB p.1 k then p :: insL l k v else if eqB p.1 k then (k, v) :: l else (k, v) :: p :: l
theorem plusGo_done : ∀ {l : PL} {k v : ByteArray}, (∀ q ∈ l, ltB k q.1 = true) → plusGo k v true l = l
 | [], _, _, _ => rfl
 | p :: l, k, v, h => by
  unfold plusGo
  have hp := h p (by simp)
  have : eqB p.1 k = false := eqB_false.2 (fun e => ltB_ne hp e.symm)
  rw [this, Bool.true_or, plusGo_done (fun q hq => h q (by simp [hq]))]
  rfl
theorem plus_ins : ∀ {l : PL} {k v : ByteArray}, risingB l = true → plusL l k v = insL l k v
 | [], _, _, _ => rfl
 | p :: l, k, v, h => by
  unfold plusL plusGo insL
  cases h1 : ltB p.1 k
  ·have hd : ∀ q ∈ l, ltB k q.1 = true := fun q hq => by
    cases h2 : eqB p.1 k
    ·have : ltB k p.1 = true := by
      cases h3 : ltB k p.1
      ·exact absurd (ltB_total h1 h3) (eqB_false.1 h2)
      ·rfl
     exact ltB_trans this (rising_head h q hq)
    ·rw [← eqB_iff.1 h2]; exact rising_head h q hq
   rw [Bool.false_or, Bool.not_false, plusGo_done hd]
   cases h2 : eqB p.1 k <;> simp
  ·have : eqB p.1 k = false := eqB_false.2 (ltB_ne h1)
   rw [this, Bool.false_or]
   have ih := plus_ins (k := k) (v := v) (rising_tail h)
   unfold plusL at ih
   simp [ih]
theorem ins_mem : ∀ {l : PL} {k v : ByteArray} {q : ByteArray × ByteArray}, q ∈ insL l k v → q = (k, v) ∨ q ∈ l
 | [], k, v, q, h => by simpa [insL] using h
 | p :: l, k, v, q, h => by
  unfold insL at h
  split at h
  ·rcases List.mem_cons.1 h with rfl | h
   ·exact .inr (by simp)
   ·rcases ins_mem h with h | h
    ·exact .inl h
    ·exact .inr (by simp [h])
  ·split at h
   ·rcases List.mem_cons.1 h with rfl | h
    ·exact .inl rfl
    ·exact .inr (by simp [h])
   ·rcases List.mem_cons.1 h with rfl | h
    ·exact .inl rfl
    ·exact .inr h
theorem ins_rising : ∀ {l : PL} {k v : ByteArray}, risingB l = true → risingB (insL l k v) = true
 | [], _, _, _ => rfl
 | p :: l, k, v, h => by
  unfold insL
  cases h1 : ltB p.1 k
  ·rw [if_neg (by simp)]
   cases h2 : eqB p.1 k
   ·rw [if_neg (by simp)]
    have hk : ltB k p.1 = true := by
     cases h3 : ltB k p.1
     ·exact absurd (ltB_total h1 h3) (eqB_false.1 h2)
     ·rfl
    exact rising_cons h (fun q hq => by
     rcases List.mem_cons.1 hq with rfl | hq
     ·exact hk
     ·exact ltB_trans hk (rising_head h q hq))
   ·rw [if_pos rfl]
    exact rising_cons (rising_tail h) (fun q hq => by show ltB k q.1 = true; rw [← eqB_iff.1 h2]; exact rising_head h q hq)
  ·rw [if_pos rfl]
   refine rising_cons (ins_rising (rising_tail h)) (fun q hq => ?_)
   rcases ins_mem hq with rfl | hq
   ·exact h1
   ·exact rising_head h q hq
theorem atL_yes {p : ByteArray × ByteArray} {l : PL} {k : ByteArray} (h : eqB p.1 k = true) : atL (p :: l) k = some p.2 := by rw [atL, if_pos h]
theorem atL_no {p : ByteArray × ByteArray} {l : PL} {k : ByteArray} (h : eqB p.1 k = false) : atL (p :: l) k = atL l k := by rw [atL, if_neg (by simp [h])]
theorem insL_lt {p : ByteArray × ByteArray} {l : PL} {k v : ByteArray} (h : ltB p.1 k = true) : insL (p :: l) k v = p :: insL l k v := by rw [insL, if_pos h]
theorem insL_eq {p : ByteArray × ByteArray} {l : PL} {k v : ByteArray} (h1 : ltB p.1 k = false) (h : eqB p.1 k = true) : insL (p :: l) k v = (k, v) :: l := by rw [insL, if_neg (by simp [h1]), if_pos h]
theorem insL_gt {p : ByteArray × ByteArray} {l : PL} {k v : ByteArray} (h1 : ltB p.1 k = false) (h : eqB p.1 k = false) : insL (p :: l) k v = (k, v) :: p :: l := by rw [insL, if_neg (by simp [h1]), if_neg (by simp [h])]
theorem at_ins : ∀ {l : PL} {k v k' : ByteArray}, risingB l = true → atL (insL l k v) k' = if eqB k k' then some v else atL l k'
 | [], k, v, k', _ => by simp [insL, atL]
 | p :: l, k, v, k', h => by
  cases h1 : ltB p.1 k
  ·cases h2 : eqB p.1 k
   ·rw [insL_gt h1 h2, atL]
   ·rw [insL_eq h1 h2]
    cases h3 : eqB k k'
    ·rw [atL_no h3, atL_no (by rw [eqB_iff.1 h2]; exact h3), if_neg (by simp)]
    ·rw [atL_yes h3, if_pos rfl]
  ·rw [insL_lt h1]
   cases h3 : eqB p.1 k'
   ·rw [atL_no h3, atL_no h3, at_ins (rising_tail h)]
   ·have : eqB k k' = false := eqB_false.2 (fun e => ltB_ne h1 (by rw [eqB_iff.1 h3, e]))
    rw [atL_yes h3, atL_yes h3, this, if_neg (by simp)]
theorem atL_none {l : PL} {k : ByteArray} (hd : ∀ q ∈ l, eqB q.1 k = false) : atL l k = none := by
 induction l with
 | nil => rfl
 | cons q l ih => rw [atL_no (hd q (by simp))]; exact ih (fun q hq => hd q (by simp [hq]))
theorem lt_of_not {p k : ByteArray} (h1 : ltB p k = false) (h2 : eqB p k = false) : ltB k p = true := by
 cases h3 : ltB k p
 ·exact absurd (ltB_total h1 h3) (eqB_false.1 h2)
 ·rfl
theorem ins_length : ∀ {l : PL} {k v : ByteArray}, risingB l = true → (insL l k v).length = if (atL l k).isSome then l.length else l.length + 1
 | [], _, _, _ => rfl
 | p :: l, k, v, h => by
  cases h1 : ltB p.1 k
  ·cases h2 : eqB p.1 k
   ·have hk := lt_of_not h1 h2
    rw [insL_gt h1 h2, atL_no h2, atL_none (fun q hq => eqB_false.2 (fun e => ltB_ne (ltB_trans hk (rising_head h q hq)) e.symm))]
    simp
   ·rw [insL_eq h1 h2, atL_yes h2]; simp
  ·rw [insL_lt h1, atL_no (eqB_false.2 (ltB_ne h1)), List.length_cons, ins_length (rising_tail h), List.length_cons]
   split <;> rfl
theorem atL_mem : ∀ {l : PL} {k v : ByteArray}, atL l k = some v → (k, v) ∈ l
 | p :: l, k, v, h => by
  unfold atL at h
  split at h
  ·rename_i h1
   have := eqB_iff.1 h1
   simp only [Option.some.injEq] at h
   subst this h
   simp
  ·exact List.mem_cons_of_mem _ (atL_mem h)
theorem atL_of_mem : ∀ {l : PL} {p : ByteArray × ByteArray}, p ∈ l → (atL l p.1).isSome = true
 | q :: l, p, h => by
  unfold atL
  cases h1 : eqB q.1 p.1
  ·rw [if_neg (by simp)]
   rcases List.mem_cons.1 h with rfl | h
   ·rw [eqB_self] at h1; cases h1
   ·exact atL_of_mem h
  ·rw [if_pos rfl]; rfl
end Go.Proofs.YtpbaobmegomfpabGreatDoor
namespace Go.Proofs.YtpbaobmegomfpabGreatDoor
open Go.RowKit
def posL : PL → ByteArray → Nat
 | [], _ => 0
 | p :: l, k => if ltB p.1 k then posL l k + 1 else 0
def fndL (l : PL) (k : ByteArray) : Bool := (atL l k).isSome
theorem posL_lt {p : ByteArray × ByteArray} {l : PL} {k : ByteArray} (h : ltB p.1 k = true) : posL (p :: l) k = posL l k + 1 := by rw [posL, if_pos h]
theorem posL_ge {p : ByteArray × ByteArray} {l : PL} {k : ByteArray} (h : ltB p.1 k = false) : posL (p :: l) k = 0 := by rw [posL, if_neg (by simp [h])]
theorem posL_le : ∀ (l : PL) (k : ByteArray), posL l k ≤ l.length
 | [], _ => nL _
 | p :: l, k => by
  have := posL_le l k
  unfold posL; split <;> simp <;> omega
theorem pos_before : ∀ {l : PL} {k : ByteArray} {j : Nat} (hj : j < l.length), j < posL l k → ltB l[j].1 k = true
 | p :: l, k, j, hj, h => by
  cases e : ltB p.1 k
  ·rw [posL_ge e] at h; omega
  ·rw [posL_lt e] at h
   cases j with
   | zero => exact e
   | succ j => exact pos_before (l := l) (by simpa using hj) (by omega)
theorem pos_after : ∀ {l : PL} {k : ByteArray} {j : Nat}, risingB l = true → (hj : j < l.length) → posL l k ≤ j → ltB l[j].1 k = false
 | p :: l, k, j, hr, hj, h => by
  cases e : ltB p.1 k
  ·cases j with
   | zero => exact e
   | succ j =>
    have hj' : j < l.length := by simpa using hj
    have h1 := rising_head hr l[j] (List.getElem_mem hj')
    show ltB l[j].1 k = false
    cases e2 : ltB l[j].1 k
    ·rfl
    ·rw [ltB_trans h1 e2] at e; cases e
  ·rw [posL_lt e] at h
   cases j with
   | zero => omega
   | succ j => exact pos_after (l := l) (rising_tail hr) (by simpa using hj) (by omega)
theorem fnd_none : ∀ {l : PL} {k : ByteArray}, risingB l = true → l.length ≤ posL l k → fndL l k = false
 | [], _, _, _ => rfl
 | p :: l, k, hr, h => by
  cases e : ltB p.1 k
  ·rw [posL_ge e] at h; simp at h
  ·rw [posL_lt e] at h
   unfold fndL
   rw [atL_no (eqB_false.2 (ltB_ne e))]
   exact fnd_none (rising_tail hr) (by simpa using h)
theorem fnd_at : ∀ {l : PL} {k : ByteArray}, risingB l = true → (h : posL l k < l.length) → fndL l k = eqB (l[posL l k]).1 k ∧ (fndL l k = true → atL l k = some (l[posL l k]).2)
 | p :: l, k, hr, h => by
  cases e : ltB p.1 k
  ·have hp := posL_ge (l := l) e
   simp only [hp, gCZ]
   cases e2 : eqB p.1 k
   ·have hk := lt_of_not e e2
    have : fndL (p :: l) k = false := by
     unfold fndL
     rw [atL_no e2, atL_none (fun q hq => eqB_false.2 (fun e' => ltB_ne (ltB_trans hk (rising_head hr q hq)) e'.symm))]; rfl
    exact ⟨this, fun h => by rw [this] at h; cases h⟩
   ·have : fndL (p :: l) k = true := by unfold fndL; rw [atL_yes e2]; rfl
    exact ⟨this, fun _ => atL_yes e2⟩
  ·have hp := posL_lt (l := l) e
   have e2 : eqB p.1 k = false := eqB_false.2 (ltB_ne e)
   have hl : posL l k < l.length := by rw [hp] at h; simpa using h
   obtain ⟨h1, h2⟩ := fnd_at (rising_tail hr) hl
   have hf : fndL (p :: l) k = fndL l k := by unfold fndL; rw [atL_no e2]
   simp only [hp, gCS]
   exact ⟨hf.trans h1, fun h => by rw [atL_no e2]; exact h2 (hf ▸ h)⟩
theorem fnd_pos {l : PL} {k : ByteArray} (hr : risingB l = true) (h : fndL l k = true) : posL l k < l.length := by
 apply Classical.byContradiction
 intro hn
 rw [fnd_none hr (by omega)] at h; cases h
theorem ins_found : ∀ {l : PL} {k v : ByteArray}, risingB l = true → fndL l k = true → insL l k v = l.set (posL l k) (k, v)
 | [], _, _, _, h => by cases h
 | p :: l, k, v, hr, h => by
  cases e : ltB p.1 k
  ·rw [posL_ge e]
   have hl := fnd_at hr (by rw [posL_ge e]; simp)
   rw [h] at hl
   simp only [posL_ge (l := l) e, gCZ] at hl
   rw [insL_eq e hl.1.symm, sCZ]
  ·rw [posL_lt e, insL_lt e, sCS, ins_found (rising_tail hr)]
   unfold fndL at h ⊢
   rwa [atL_no (eqB_false.2 (ltB_ne e))] at h
theorem ins_new : ∀ {l : PL} {k v : ByteArray}, risingB l = true → fndL l k = false → insL l k v = l.take (posL l k) ++ (k, v) :: l.drop (posL l k)
 | [], _, _, _, _ => rfl
 | p :: l, k, v, hr, h => by
  cases e : ltB p.1 k
  ·rw [posL_ge e]
   have hl := fnd_at hr (by rw [posL_ge e]; simp)
   rw [h] at hl
   simp only [posL_ge (l := l) e, gCZ] at hl
   rw [insL_gt e hl.1.symm]; rfl
  ·rw [posL_lt e, insL_lt e, ins_new (rising_tail hr)]
   ·rfl
   ·unfold fndL at h ⊢
    rwa [atL_no (eqB_false.2 (ltB_ne e))] at h
end Go.Proofs.YtpbaobmegomfpabGreatDoor
namespace Go.Proofs.YtpbaobmegomfpabGreatDoor
open Go.RowKit
theorem geq_str (a b : ByteArray) : binOp .geq 9 (.string a) (.string b) = pure (.bool (!ltB a b)) := by simp [binOp, Op.stringOp, ltB]
set_option maxHeartbeats 400000 in
theorem place1_any (v : Value) (l : PL) (key : ByteArray) (k : Nat) (p q : Addr) (w : World) (B : Nat) (hl : Lst w B v l) (hk : k < l.length) (hp : w.cell? p = some v) (hq : w.cell? q = some (.string key)) :
  Calls Tryz.prog 116 #[.int .i64 k, .pointer (some p), .pointer (some q)] w fun e w' => e = .returned (.bool (!ltB l[k].1 key)) ∧ ∃ n, w' = w.drewN n := by
 obtain ⟨A, c, rfl, hc⟩ := hl.form
 obtain ⟨b, off, rfl, hb, c0, c1⟩ := hl.pt hk
 have hge := geq_str l[k].1 key
 have hkl : (k : Int) < (l.length : Int) := by omega
 clear hl
 go_enter Tryz.func116, Tryz.ntmps116
 go_wp2
 go_quiet (fail)
 go_wp2
 go_ret
 exact ⟨rfl, nq, rfl⟩
set_option maxHeartbeats 1000000 in
theorem search_any (v : Value) (l : PL) (key : ByteArray) (p q : Addr) (w : World) (B : Nat) (hl : Lst w B v l) (hr : risingB l = true) (hp : w.cell? p = some v) (hq : w.cell? q = some (.string key)) :
  Calls Tryz.prog 115 #[.int .i64 l.length, .func (.func 116) #[] #[.pointer (some p), .pointer (some q)]] w fun e w' => e = .returned (.int .i64 (posL l key)) ∧ ∃ n, w' = w.drewN n := by
 have hby := hl.bytes
 have hpl := posL_le l key
 have HL := hD hl
 have HR := hD hr
 have HP := hD hp
 have HQ := hD hq
 clear hl hr hp hq
 go_enter Tryz.func115, Tryz.ntmps115
 go_wp2
 go_loopw [5, 6] (fun i j wr => ∃ a b : Nat, i = .int .i64 a ∧ j = .int .i64 b ∧ a ≤ posL l key ∧ posL l key ≤ b ∧ b ≤ l.length ∧ ∃ n, wr = w.drewN n) (fun i j _ => (intOf j).toNat - (intOf i).toNat)
 case atStart => exact ⟨0, l.length, rfl, rfl, by omega, hpl, nL _, 0, rfl⟩
 case round =>
  obtain ⟨a, b, rfl, rfl, h1, h2, h3, n, rfl⟩ := hrel
  by_cases hlt : a < b
  ·go_wp2_with fail
   rw [show ((a : Int) + (b : Int)) / 2 = (((a + b) / 2 : Nat) : Int) from by omega]
   have m1 : a ≤ (a + b) / 2 := by omega
   have m2 : (a + b) / 2 < b := by omega
   generalize (a + b) / 2 = m at *
   refine (place1_any v l key m p q _ B (HL.out.drewN n) (by omega) HP.out HQ.out).mono ?_
   by_cases hm : m < posL l key
   ·rw [pos_before (l := l) (k := key) (by omega) hm]
    rintro e w2 ⟨rfl, n2, rfl⟩
    go_wp2
    go_roundw
    case rel => exact ⟨m + 1, b, by go_num, rfl, by omega, h2, h3, n + n2, rfl⟩
    case measure => simp [intOf]; omega
   ·rw [pos_after (l := l) (k := key) HR.out (by omega) (by omega)]
    rintro e w2 ⟨rfl, n2, rfl⟩
    go_wp2
    go_roundw
    case rel => exact ⟨a, m, rfl, rfl, h1, by omega, by omega, n + n2, rfl⟩
    case measure => simp [intOf]; omega
  ·obtain rfl : a = posL l key := by omega
   go_wp2
   go_ret
   exact ⟨rfl, n, rfl⟩
set_option maxHeartbeats 1000000 in
theorem place_any (v : Value) (l : PL) (key : ByteArray) (w : World) (hl : Lst w w.heap.size v l) (hr : risingB l = true) :
  Calls Tryz.prog 95 #[v, .string key] w fun e w' => e = .returned (.tuple #[.int .i64 (posL l key), .bool (fndL l key)]) ∧ Below w.heap.size w w' := by
 obtain ⟨A, c, rfl, hc⟩ := hl.form
 have hby := hl.bytes
 have hpl := posL_le l key
 have HL := hD hl
 have HR := hD hr
 clear hl hr
 have b0 : Below w.heap.size w ((w.alloc (.cells #[.slice A l.length c] 27)).alloc (.cells #[.string key] 9)) := ((Below.refl _ _).alloc (nL _) _).alloc (by simp) _
 by_cases hlt : posL l key < l.length
 ·obtain ⟨hf, _⟩ := fnd_at HR.out hlt
  obtain ⟨b, off, rfl, hb, c0, c1⟩ := HL.out.pt hlt
  have g1 : decide ((posL l key : Int) < (l.length : Int)) = true := decide_eq_true (by omega)
  have g2 : decide (posL l key < l.length) = true := decide_eq_true hlt
  have hlt2 : (posL l key : Int) < (l.length : Int) := by omega
  cases he : eqB (l[posL l key]).1 key
  all_goals
   rw [he] at hf
   have HF := hD hf
   unfold eqB at he
   clear hf
   go_enter Tryz.func95, Tryz.ntmps95
   go_wp2_with fail
   refine (search_any _ l key _ _ _ _ (HL.out.step b0) HR.out (by simp [go_sem]) (by simp [go_sem])).mono ?_
   rintro e w1 ⟨rfl, n, rfl⟩
   generalize hm : posL l key = m at *
   have HM := hD hm
   clear hm
   go_wp2
   go_quiet (fail)
   go_wp2
   go_ret2
   exact ⟨by rw [HF.out, HM.out]; rfl, below_drewN (below_drewN b0 _) _⟩
 ·have HF := hD (fnd_none (k := key) HR.out (by omega))
  have g1 : decide ((posL l key : Int) < (l.length : Int)) = false := decide_eq_false (by omega)
  have g2 : decide (posL l key < l.length) = false := decide_eq_false hlt
  go_enter Tryz.func95, Tryz.ntmps95
  go_wp2_with fail
  refine (search_any _ l key _ _ _ _ (HL.out.step b0) HR.out (by simp [go_sem]) (by simp [go_sem])).mono ?_
  rintro e w1 ⟨rfl, n, rfl⟩
  generalize hm : posL l key = m at *
  have HM := hD hm
  clear hm
  go_wp2
  go_quiet (fail)
  go_wp2
  go_ret2
  exact ⟨by rw [HF.out, HM.out]; rfl, below_drewN (below_drewN b0 _) _⟩
end Go.Proofs.YtpbaobmegomfpabGreatDoor
namespace Go.Proofs.YtpbaobmegomfpabGreatDoor
open Go.RowKit
theorem pair_row : (Tryz.prog.info? 60).map (fun i => (i.zero, i.size, i.bytes)) = some (some (.agg #[.string ⟨#[]⟩, .string ⟨#[]⟩]), 2, 32) := by kernel_rfl
theorem pair_one (a b : ByteArray) : ∀ u ∈ ([.string a, .string b] : List Value), u.oneCell' = true := by
 intro u hu
 simp only [List.mem_cons, List.not_mem_nil, or_false] at hu
 rcases hu with rfl | rfl <;> rfl
section
variable {l out : PL} {key val : ByteArray} {k : Nat} {p : ByteArray × ByteArray} {r : PL}
end
end Go.Proofs.YtpbaobmegomfpabGreatDoor
namespace Go.Proofs.YtpbaobmegomfpabGreatDoor
open Go.RowKit Go.Lib
theorem copy_pairs (w : World) (ty : TypeId) (g o dLen dCap : Nat) (a : Addr) (sLen sCap : Nat) (cur : Array Value) (t : TypeId) (cs : List Value)
  (hg : w.heap[g]? = some (.cells cur t (0, 0))) (hn : cs.length = Nat.min sLen dLen * 2)
  (hsrc : ∀ j v, cs[j]? = some v → w.cell? (a.add j) = some v) (hfit : o + cs.length ≤ cur.size) (h1 : ∀ v ∈ cs, v.oneCell' = true) :
  (Builtin.copy_ #[27, 27] ty #[.slice (some ⟨g, o, none⟩) dLen dCap, .slice (some a) sLen sCap]).run Tryz.prog w =
   .ok (goInt (Nat.min sLen dLen)) (w.setRow g (cur.toList.take o ++ cs ++ cur.toList.drop (o + cs.length)).toArray) := by
 obtain ⟨i0, hi, hz0, hz1, hz2⟩ := info_parts pair_row
 have hl := run_loadCells_list (P := Tryz.prog) w a cs hsrc
 have hst := run_storeCells_at Tryz.prog g o t cs 0 cur w hg (by simpa using hfit) h1
 have e : Nat.min sLen dLen * 2 = cs.length := hn.symm
 simp [Builtin.copy_, run_underlying Tryz.underlying27, Builtin.lenOf, Builtin.firstCells, sizeOf, typeInfo, hi, hz1, e, hl, hst]
theorem setRow_size (w : World) (g : Nat) (cs : Array Value) : (w.setRow g cs).heap.size = w.heap.size := by simp [World.setRow]
theorem setRow_other (w : World) (g : Nat) (cs : Array Value) (k : Nat) (h : k ≠ g) : (w.setRow g cs).heap[k]? = w.heap[k]? := by
 simp only [World.setRow, Array.getElem?_modify]
 rw [if_neg (fun e => h e.symm)]
theorem setRow_grown (w : World) (g : Nat) (cs : Array Value) : w.grownBy (w.setRow g cs) (some g) :=
 ⟨rfl, rfl, rfl, by rw [setRow_size]; exact nL _, fun k hk hne => setRow_other w g cs k (fun e => hne (by rw [e]))⟩
structure OwnL (w : World) (g cap : Nat) (l : PL) : Prop where
 row : RowTo w g 60 (cap * 2) (flat l)
 len : l.length ≤ cap
 most : cap ≤ 9223372036854775807
theorem OwnL.own {w : World} {g cap : Nat} {l : PL} (h : OwnL w g cap l) : w.ownsRow 0 60 2 (.slice (some ⟨g, 0, none⟩) l.length cap) l.length (flat l) := by
 obtain ⟨cur, hh, hs, hx⟩ := h.row
 exact ⟨flat_length l, .inr ⟨g, cap, cur, rfl, Nat.zero_le _, hh, h.len, by have := h.most; unfold maxLen; omega, hs, by rw [flat_length] at hx; exact hx⟩⟩
def InsPost (w : World) (g : Nat) (l' : PL) (e : Ending) (w' : World) : Prop :=
 ∃ g' cap', e = .returned (.slice (some ⟨g', 0, none⟩) l'.length cap') ∧ OwnL w' g' cap' l' ∧ (g' = g ∨ w.heap.size ≤ g') ∧ w.grownBy w' (some g)
theorem own_ins {w w1 : World} {g c : Nat} {n : Nat} {v1 : Value} {l : PL} {key val : ByteArray} (ho1 : w1.ownsRow 0 60 2 v1 (l.length + 1) (flat l ++ [.string key, .string val])) (hg1 : w.grownBy w1 (Value.slice (some ⟨g, 0, none⟩) n c).ownBlock)
  (hl : v1.ownBlock = (Value.slice (some ⟨g, 0, none⟩) n c).ownBlock ∨ v1.ownBlock = some w.heap.size) : InsPost w g (l ++ [(key, val)]) (.returned v1) w1 := by
 obtain ⟨_, ⟨_, h0⟩ | ⟨g', cap', cur, hv, _, hh, hc, hm, hz, hx⟩⟩ := ho1
 ·omega
 subst hv
 have e1 : (l ++ [(key, val)]).length = l.length + 1 := by simp
 have e2 : flat (l ++ [(key, val)]) = flat l ++ [.string key, .string val] := flat_append l [(key, val)]
 refine ⟨g', cap', by rw [e1], ⟨⟨cur, hh, hz, ?_⟩, by rw [e1]; exact hc, hm⟩, ?_, hg1⟩
 ·rw [flat_length, e1, e2]; exact hx
 ·rcases hl with h | h
  ·left; injection h
  ·right; injection h with h; exact Nat.le_of_eq h.symm
set_option maxHeartbeats 2000000 in
theorem insert_end (g c vb : Nat) (l : PL) (key val : ByteArray) (w : World) (ho : OwnL w g c l) (hn : l.length ≤ 1000) (hv : RowTo w vb 60 2 [.string key, .string val]) :
  Calls Tryz.prog 114 #[.slice (some ⟨g, 0, none⟩) l.length c, .int .i64 l.length, .slice (some ⟨vb, 0, none⟩) 1 1] w (InsPost w g (l ++ [(key, val)])) := by
 obtain ⟨i0, hi, hz0, hz1, hz2⟩ := info_parts pair_row
 have HI := hD (And.intro hi (And.intro hz0 (And.intro hz1 hz2)))
 clear hi hz0 hz1 hz2
 have hlc := ho.len
 have hcm := ho.most
 have HO := hD ho.own
 have HF := hD (fun (j : Nat) (u : Value) (h : ([.string key, .string val] : List Value)[j]? = some u) => (show w.cell? ((⟨vb, 0, none⟩ : Addr).add j) = some u from by
  rw [Addr.add_lit, Nat.zero_add]
  have hj : j < ([.string key, .string val] : List Value).length := (List.getElem?_eq_some_iff.1 h).1
  rw [hv.cell hj, ← h, List.getElem?_eq_getElem hj]))
 have HG := hD ho.row.lt
 clear ho hv
 go_enter Tryz.func114, Tryz.ntmps114
 go_wp2_with (at_builtin; refine wpList_append_own_at _ rfl _ _ 27 rfl 0 60 i0 _ 2 32 Tryz.underlying27 HI.out.1 HI.out.2.1 HI.out.2.2.1 HI.out.2.2.2 rfl (by decide) (.slice (some ⟨g, 0, none⟩) l.length c) _ _ rfl HO.out ⟨vb, 0, none⟩ 1 1 [.string key, .string val] rfl rfl HF.out (pair_one _ _) (by unfold maxLen; omega) (by omega) (Nat.zero_le _) ?_; intro v1 w1 ho1 hg1 hnil1 hloc1)
 all_goals
  go_ret
  exact own_ins ho1 hg1 hloc1
theorem rows_shift {cur fl vs R1 R2 : List Value} {i n : Nat} (hfl : fl.length = n * 2) (hi : i ≤ n) (hcur : cur.take (n * 2) = fl) (hlen : n * 2 + 2 ≤ cur.length) (hvs : vs.length = 2)
  (h1 : R1 = cur.take ((i + 1) * 2) ++ fl.drop (i * 2) ++ cur.drop ((i + 1) * 2 + (fl.drop (i * 2)).length)) (h2 : R2 = R1.take (i * 2) ++ vs ++ R1.drop (i * 2 + vs.length)) :
  R1.length = cur.length ∧ R2.length = cur.length ∧ R2.take ((n + 1) * 2) = fl.take (i * 2) ++ vs ++ fl.drop (i * 2) := by
 have la : (cur.take ((i + 1) * 2)).length = (i + 1) * 2 := by rw [List.length_take]; omega
 have ld : (fl.drop (i * 2)).length = n * 2 - i * 2 := by rw [List.length_drop, hfl]
 have e1 : R1.take (i * 2) = fl.take (i * 2) := by
  rw [h1, List.append_assoc, List.take_append_of_le_length (by rw [la]; omega), List.take_take, ← hcur, List.take_take]
  congr 1; omega
 have e2 : R1.drop (i * 2 + vs.length) = fl.drop (i * 2) ++ cur.drop ((i + 1) * 2 + (fl.drop (i * 2)).length) := by
  rw [h1, hvs, List.append_assoc, List.drop_append, la, List.drop_of_length_le (by rw [la]; omega), List.nil_append, show i * 2 + 2 - (i + 1) * 2 = 0 by omega, List.drop_zero]
 have l1 : R1.length = cur.length := by
  rw [h1]; simp only [List.length_append, la, ld, List.length_drop]; omega
 refine ⟨l1, ?_, ?_⟩
 ·rw [h2]; simp only [List.length_append, List.length_take, List.length_drop, l1, hvs]; omega
 ·rw [h2, e1, e2, ← List.append_assoc, List.take_append_of_le_length (by simp only [List.length_append, List.length_take, ld, hvs, hfl]; omega), List.take_of_length_le (by simp only [List.length_append, List.length_take, ld, hvs, hfl]; omega)]
theorem own_mid {w : World} {g cap i : Nat} {l : PL} {p : ByteArray × ByteArray} {arr : Array Value} (hh : w.heap[g]? = some (.cells arr 60 (0, 0))) (hs : arr.size = cap * 2) (hc : l.length + 1 ≤ cap) (hm : cap ≤ 9223372036854775807) (hi : i ≤ l.length)
  (ht : arr.toList.take ((l.length + 1) * 2) = (flat l).take (i * 2) ++ [.string p.1, .string p.2] ++ (flat l).drop (i * 2)) : OwnL w g cap (l.take i ++ p :: l.drop i) := by
 have e1 : (l.take i ++ p :: l.drop i).length = l.length + 1 := by simp; omega
 have e2 : flat (l.take i ++ p :: l.drop i) = (flat l).take (i * 2) ++ [.string p.1, .string p.2] ++ (flat l).drop (i * 2) := by
  rw [flat_append, flat_cons, flat_take]
  have : flat (l.drop i) = (flat l).drop (i * 2) := by
   have h1 : flat l = (flat l).take (i * 2) ++ flat (l.drop i) := by rw [← flat_take, ← flat_append, List.take_append_drop]
   have h2 : ((flat l).take (i * 2)).length = i * 2 := by rw [List.length_take, flat_length]; omega
   rw [h1, List.drop_append, h2, List.drop_take]
   simp
  rw [this]; simp
 exact ⟨⟨arr, hh, hs, by rw [flat_length, e1, e2]; exact ht⟩, by rw [e1]; exact hc, hm⟩
set_option maxHeartbeats 4000000 in
theorem insert_room (g c vb i : Nat) (l : PL) (key val : ByteArray) (w : World) (ho : OwnL w g c l) (hn : l.length ≤ 1000) (hi : i < l.length) (hroom : l.length + 1 ≤ c) (hne : vb ≠ g) (hv : RowTo w vb 60 2 [.string key, .string val]) :
  Calls Tryz.prog 114 #[.slice (some ⟨g, 0, none⟩) l.length c, .int .i64 i, .slice (some ⟨vb, 0, none⟩) 1 1] w (InsPost w g (l.take i ++ (key, val) :: l.drop i)) := by
 obtain ⟨cur, hh, hs, hx⟩ := ho.row
 have hcm := ho.most
 obtain ⟨vcur, hvh, hvs, hvx⟩ := hv
 have hz2 : ((i : Int) == (l.length : Int)) = false := beq_eq_false_iff_ne.2 (by omega)
 have hov : ∀ lb cb, (callFunc 133 #[.slice (some ⟨vb, 0, none⟩) 1 1, .slice (some ⟨g, (i + 1) * 2, none⟩) lb cb]).run Tryz.prog w = .ok (.value (.bool false)) w := fun lb cb => by
  rw [run_callFunc_extern Tryz.func133 (by kernel_rfl) (by kernel_rfl) (by kernel_rfl) (e := Extern.SlicesOverlaps.overlaps #[27, 27] #[4]) (by kernel_rfl),
   Lib.run_overlaps_apart w 27 4 60 Tryz.underlying27 2 (fun _ => by kernel_rfl) ⟨vb, 0, none⟩ ⟨g, (i + 1) * 2, none⟩ 1 1 lb cb hne 60 60 2 (c * 2) (by simp [World.shape?, hvh, hvs]) (by simp [World.shape?, hh, hs]) (by omega) (by simp [World.frozen?, hvh]) (by simp [World.frozen?, hvh])]
  rfl
 go_enter Tryz.func114, Tryz.ntmps114
 have hxl : cur.toList.take (l.length * 2) = flat l := by rw [flat_length] at hx; exact hx
 have hvx' : vcur.toList = [.string key, .string val] := by
  have := hvx
  rwa [List.take_of_length_le (by simp [hvs])] at this
 have hcl : cur.toList.length = c * 2 := by simpa using hs
 obtain ⟨R1, hR1⟩ : ∃ R1, R1 = cur.toList.take ((i + 1) * 2) ++ (flat l).drop (i * 2) ++ cur.toList.drop ((i + 1) * 2 + ((flat l).drop (i * 2)).length) := ⟨_, rfl⟩
 obtain ⟨R2, hR2⟩ : ∃ R2, R2 = R1.take (i * 2) ++ [.string key, .string val] ++ R1.drop (i * 2 + ([.string key, .string val] : List Value).length) := ⟨_, rfl⟩
 have HR := hD (rows_shift (flat_length l) (Nat.le_of_lt hi) hxl (by rw [hcl]; omega) rfl hR1 hR2)
 have hfd : ((flat l).drop (i * 2)).length = (l.length - i) * 2 := by rw [List.length_drop, flat_length]; omega
 have hcp1 : ∀ ty dc sc, (Builtin.copy_ #[27, 27] ty #[.slice (some ⟨g, (i + 1) * 2, none⟩) (l.length + 1 - (i + 1)) dc, .slice (some ⟨g, i * 2, none⟩) (l.length + 1 - i) sc]).run Tryz.prog w.drew = .ok (goInt (Nat.min (l.length + 1 - i) (l.length + 1 - (i + 1)))) (w.drew.setRow g R1.toArray) := fun ty dc sc => by
  rw [hR1]
  refine copy_pairs w.drew ty g ((i + 1) * 2) _ dc ⟨g, i * 2, none⟩ _ sc cur _ ((flat l).drop (i * 2)) hh (by rw [hfd, show Nat.min (l.length + 1 - i) (l.length + 1 - (i + 1)) = l.length + 1 - (i + 1) from Nat.min_eq_right (by omega)]; omega) (fun j v hj => ?_) (by rw [hfd]; have := hs; omega) (fun v hv => flat_one l v (List.mem_of_mem_drop hv))
  rw [Addr.add_lit]
  have hjj : i * 2 + j < (flat l).length := by rw [List.getElem?_drop] at hj; exact (List.getElem?_eq_some_iff.1 hj).1
  have h3 := ho.row.cell hjj
  rw [List.getElem?_drop, List.getElem?_eq_getElem hjj] at hj
  rw [← hj]
  exact h3
 have hcp2 : ∀ (W : World), (∀ x, W.cell? x = (w.setRow g R1.toArray).cell? x) → W.heap[g]? = (w.setRow g R1.toArray).heap[g]? → ∀ ty dc, (Builtin.copy_ #[27, 27] ty #[.slice (some ⟨g, i * 2, none⟩) (l.length + 1 - i) dc, .slice (some ⟨vb, 0, none⟩) 1 1]).run Tryz.prog W = .ok (goInt (Nat.min 1 (l.length + 1 - i))) (W.setRow g R2.toArray) := fun W hWc hWg ty dc => by
  have hW' : W.heap[g]? = some (.cells R1.toArray 60 (0, 0)) := hWg.trans (setRow_heap w g cur R1.toArray _ _ hh)
  have := copy_pairs W ty g (i * 2) (l.length + 1 - i) dc ⟨vb, 0, none⟩ 1 1 R1.toArray 60 [.string key, .string val] hW' (by rw [show Nat.min 1 (l.length + 1 - i) = 1 from Nat.min_eq_left (by omega)]; rfl) (fun j v hj => by
   rw [Addr.add_lit, Nat.zero_add, hWc]
   have h4 : (w.setRow g R1.toArray).cell? ⟨vb, j, none⟩ = w.cell? ⟨vb, j, none⟩ := World.cell?_of_block (setRow_other w g _ vb hne)
   rw [h4]
   unfold World.cell?
   simp only [hvh]
   show vcur[j]? = some v
   rw [← hj, ← hvx']
   simp) (by have := HR.out.1; simp only [List.size_toArray, List.length_cons, List.length_nil]; omega) (pair_one key val)
  rw [hR2]
  simpa using this
 have hw1 : IntKind.i64.wrap ((i : Int) + 1) = (i : Int) + 1 := IntWalk.i64_in _ (by omega)
 have hb1 : (0 : Int) ≤ (i : Int) + 1 := by omega
 have htn : ((i : Int) + 1).toNat = i + 1 := by omega
 have hb2 : ¬ (c = i + 1) := by omega
 have hb3 : (i : Int) + 1 ≤ (l.length : Int) + 1 := by omega
 have hb4 : ¬ (c = i) := by omega
 have hb5 : (i : Int) ≤ (l.length : Int) + 1 := by omega
 have hb6 : i ≤ l.length + 1 := by omega
 have hb7 : i + 1 ≤ l.length + 1 := by omega
 have mixed : Tryz.prog.follows Departure.mixedOrders = true := by kernel_rfl
 have HO := hD ho
 have HH := hD hh
 have HS := hD hs
 clear hR1 hR2 hx hxl hvx' hcl hfd hvx hvs hvh hh hs ho
 go_wp2_with (simp only [hov])
 go_region_law_o (refine step_copy_runI rfl _ _ 27 27 rfl (.slice (some ⟨g, (i + 1) * 2, none⟩) (l.length + 1 - (i + 1)) (c - (i + 1))) (.slice (some ⟨g, i * 2, none⟩) (l.length + 1 - i) (c - i)) (by simp [Act.eval, Act.put]) (by simp [Act.eval, Act.put]) (hcp1 _ _ _) ?_)
 have hc2 := hcp2 (w.drew.setRow g R1.toArray) (fun _ => rfl) rfl
 clear hcp1 hcp2 hov
 go_wp2
 go_ret
 have hfin : ((w.drew.setRow g R1.toArray).setRow g R2.toArray).heap[g]? = some (.cells R2.toArray 60 (0, 0)) := setRow_heap _ g R1.toArray _ _ _ (setRow_heap w.drew g cur R1.toArray _ _ HH.out)
 refine ⟨g, c, ?_, own_mid (p := (key, val)) hfin (by have := HR.out.2.1; have := HS.out; simp only [List.size_toArray]; simp at *; omega) hroom hcm (Nat.le_of_lt hi) (by simpa using HR.out.2.2), .inl rfl, ?_⟩
 ·have e1 : (l.take i ++ (key, val) :: l.drop i).length = l.length + 1 := by simp; omega
  rw [e1]; rfl
 ·have h1 := setRow_grown w.drew g R1.toArray
  have h2 := setRow_grown (w.drew.setRow g R1.toArray) g R2.toArray
  exact ⟨rfl, rfl, rfl, Nat.le_trans h1.size h2.size, fun k hk hne => (h2.block k (by rw [setRow_size]; exact hk) hne).trans (h1.block k hk hne)⟩
theorem rows_grow {R0 fl vs R1 R2 : List Value} {i n G : Nat} (hfl : fl.length = n * 2) (hi : i ≤ n) (h0 : R0.take (i * 2) = fl.take (i * 2)) (hlen : R0.length = G * 2) (hG : n + 1 ≤ G) (hvs : vs.length = 2)
  (h1 : R1 = R0.take (i * 2) ++ vs ++ R0.drop (i * 2 + vs.length)) (h2 : R2 = R1.take ((i + 1) * 2) ++ fl.drop (i * 2) ++ R1.drop ((i + 1) * 2 + (fl.drop (i * 2)).length)) :
  R1.length = G * 2 ∧ R2.length = G * 2 ∧ R2.take ((n + 1) * 2) = fl.take (i * 2) ++ vs ++ fl.drop (i * 2) := by
 have la : (fl.take (i * 2)).length = i * 2 := by rw [List.length_take]; omega
 have ld : (fl.drop (i * 2)).length = n * 2 - i * 2 := by rw [List.length_drop, hfl]
 have l1 : R1.length = G * 2 := by rw [h1, h0]; simp only [List.length_append, la, hvs, List.length_drop, hlen]; omega
 have e1 : R1.take ((i + 1) * 2) = fl.take (i * 2) ++ vs := by
  rw [h1, h0, List.take_append_of_le_length (by simp only [List.length_append, la, hvs]; omega), List.take_of_length_le (by simp only [List.length_append, la, hvs]; omega)]
 refine ⟨l1, ?_, ?_⟩
 ·rw [h2]; simp only [List.length_append, List.length_take, List.length_drop, l1, hfl]; omega
 ·rw [h2, e1, List.take_append_of_le_length (by simp only [List.length_append, la, ld, hvs]; omega), List.take_of_length_le (by simp only [List.length_append, la, ld, hvs]; omega)]
set_option maxHeartbeats 4000000 in
theorem insert_grow (g c vb i : Nat) (l : PL) (key val : ByteArray) (w : World) (ho : OwnL w g c l) (hn : l.length ≤ 1000) (hi : i < l.length) (hroom : c < l.length + 1) (hne : vb ≠ g) (hv : RowTo w vb 60 2 [.string key, .string val]) :
  Calls Tryz.prog 114 #[.slice (some ⟨g, 0, none⟩) l.length c, .int .i64 i, .slice (some ⟨vb, 0, none⟩) 1 1] w (InsPost w g (l.take i ++ (key, val) :: l.drop i)) := by
 obtain ⟨i0, hi0, hz0, hz1, hz2'⟩ := info_parts pair_row
 have hgw := ho.row.lt
 have hvw := hv.lt
 have hcm := ho.most
 have hlc := ho.len
 have hz2 : ((i : Int) == (l.length : Int)) = false := beq_eq_false_iff_ne.2 (by omega)
 have hft : ((flat l).take (i * 2)).length = i * 2 := by rw [List.length_take, flat_length]; omega
 have hfd : ((flat l).drop (i * 2)).length = (l.length - i) * 2 := by rw [List.length_drop, flat_length]; omega
 have hold : (Builtin.firstCells i0.size i (.slice (some ⟨g, 0, none⟩) i c)).run Tryz.prog w.drew = .ok ((flat l).take (i * 2)).toArray w.drew := by
  rw [hz1]
  exact run_firstCells_some w.drew 2 i ⟨g, 0, none⟩ i c ((flat l).take (i * 2)) hft (fun j v hj => by
   rw [Addr.add_lit, Nat.zero_add]
   rw [List.getElem?_take] at hj
   split at hj
   ·have hjj := (List.getElem?_eq_some_iff.1 hj).1
    have h3 := ho.row.cell hjj
    rw [List.getElem?_eq_getElem hjj] at hj
    rw [← hj]; exact h3
   ·cases hj)
 obtain ⟨G, hG⟩ : ∃ G, G = grownCap w (l.length + 1) c 60 := ⟨_, rfl⟩
 have hGn : l.length + 1 ≤ G := by rw [hG]; exact grownCap_ge w _ _ _
 have hG63 : G ≤ 9223372036854775807 := by
  have := grownCap_le_maxLen w (l.length + 1) c 60 (by unfold maxLen; omega)
  rw [← hG] at this
  unfold maxLen at this
  omega
 obtain ⟨ROW, hROW⟩ : ∃ ROW : Array Value, ROW = ((flat l).take (i * 2)).toArray ++ Builtin.zeroCells (Value.agg #[.string ⟨#[]⟩, .string ⟨#[]⟩]).cells (l.length + 1 - i) ++ Builtin.zeroCells (Value.agg #[.string ⟨#[]⟩, .string ⟨#[]⟩]).cells (G - (l.length + 1)) := ⟨_, rfl⟩
 have hkk : (l.length : Int) + 1 - (i : Int) = ((l.length + 1 - i : Nat) : Int) := by omega
 have hrz : ∀ ty, (Builtin.append_ #[27, 3] ty #[.slice (some ⟨g, 0, none⟩) i c, .int .i64 ((l.length : Int) + 1 - (i : Int))]).run Tryz.prog w = .ok (.slice (some ⟨w.heap.size, 0, none⟩) (l.length + 1) G) (w.drew.alloc (.cells ROW 60)) := fun ty => by
  have hik : i + (l.length + 1 - i) = l.length + 1 := by omega
  have h := Lib.run_append_grow_zeros w 27 3 ty 60 i0 _ .i64 .i64 Tryz.underlying27 Tryz.underlying3 hi0 hz0 (some ⟨g, 0, none⟩) i c ((flat l).take (i * 2)) hold (l.length + 1 - i) (by omega) (by omega) (by omega) (by omega) (by rw [hz2']; omega) (by rw [hz2', hik]; exact growslice_fits hroom (by omega))
  rw [hik] at h
  rw [hkk, hROW, hG]
  exact h
 have hRl : ROW.toList.length = G * 2 := by
  rw [hROW]
  simp [Builtin.zeroCells, Value.cells, hft]
  omega
 have hR0 : ROW.toList.take (i * 2) = (flat l).take (i * 2) := by
  rw [hROW]
  simp only [Array.toList_append, List.append_assoc]
  rw [List.take_append_of_le_length (by simp only [hft]; omega), List.take_of_length_le (by simp only [hft]; omega)]
 obtain ⟨R1, hR1⟩ : ∃ R1, R1 = ROW.toList.take (i * 2) ++ [.string key, .string val] ++ ROW.toList.drop (i * 2 + ([.string key, .string val] : List Value).length) := ⟨_, rfl⟩
 obtain ⟨R2, hR2⟩ : ∃ R2, R2 = R1.take ((i + 1) * 2) ++ (flat l).drop (i * 2) ++ R1.drop ((i + 1) * 2 + ((flat l).drop (i * 2)).length) := ⟨_, rfl⟩
 have hrg := rows_grow (flat_length l) (Nat.le_of_lt hi) hR0 hRl hGn rfl hR1 hR2
 have HR := hD hrg
 have hX : (w.alloc (.cells ROW 60)).heap[w.heap.size]? = some (.cells ROW 60 (0, 0)) := heap_alloc_new w _
 have hcA : ∀ (W : World), (∀ x, W.cell? x = (w.alloc (.cells ROW 60)).cell? x) → W.heap[w.heap.size]? = some (.cells ROW 60 (0, 0)) → ∀ ty dc, (Builtin.copy_ #[27, 27] ty #[.slice (some ⟨w.heap.size, i * 2, none⟩) (l.length + 1 - i) dc, .slice (some ⟨vb, 0, none⟩) 1 1]).run Tryz.prog W = .ok (goInt (Nat.min 1 (l.length + 1 - i))) (W.setRow w.heap.size R1.toArray) := fun W hWc hWg ty dc => by
  rw [hR1]
  exact copy_pairs W ty w.heap.size (i * 2) (l.length + 1 - i) dc ⟨vb, 0, none⟩ 1 1 ROW 60 [.string key, .string val] hWg (by rw [show Nat.min 1 (l.length + 1 - i) = 1 from Nat.min_eq_left (by omega)]; rfl) (fun j v hj => by
   rw [Addr.add_lit, Nat.zero_add, hWc, World.cell?_alloc_lt w _ _ hvw]
   have hjj := (List.getElem?_eq_some_iff.1 hj).1
   rw [hv.cell hjj, ← hj, List.getElem?_eq_getElem hjj]) (by have := hRl; simp only [Array.length_toList] at this; simp only [List.length_cons, List.length_nil]; omega) (pair_one key val)
 have hcB : ∀ (W : World), (∀ x, W.cell? x = ((w.alloc (.cells ROW 60)).setRow w.heap.size R1.toArray).cell? x) → W.heap[w.heap.size]? = some (.cells R1.toArray 60 (0, 0)) → ∀ ty dc sc, (Builtin.copy_ #[27, 27] ty #[.slice (some ⟨w.heap.size, (i + 1) * 2, none⟩) (l.length + 1 - (i + 1)) dc, .slice (some ⟨g, i * 2, none⟩) (l.length - i) sc]).run Tryz.prog W = .ok (goInt (Nat.min (l.length - i) (l.length + 1 - (i + 1)))) (W.setRow w.heap.size R2.toArray) := fun W hWc hWg ty dc sc => by
  have hthis := copy_pairs W ty w.heap.size ((i + 1) * 2) (l.length + 1 - (i + 1)) dc ⟨g, i * 2, none⟩ (l.length - i) sc R1.toArray 60 ((flat l).drop (i * 2)) hWg (by rw [hfd, show Nat.min (l.length - i) (l.length + 1 - (i + 1)) = l.length - i from Nat.min_eq_left (by omega)]) (fun j v hj => by
   rw [Addr.add_lit, hWc]
   have h4 : ((w.alloc (.cells ROW 60)).setRow w.heap.size R1.toArray).cell? ⟨g, i * 2 + j, none⟩ = (w.alloc (.cells ROW 60)).cell? ⟨g, i * 2 + j, none⟩ := World.cell?_of_block (setRow_other _ _ _ g (Nat.ne_of_lt hgw))
   rw [h4, World.cell?_alloc_lt w _ _ hgw]
   have hjj : i * 2 + j < (flat l).length := by rw [List.getElem?_drop] at hj; exact (List.getElem?_eq_some_iff.1 hj).1
   have h3 := ho.row.cell hjj
   rw [List.getElem?_drop, List.getElem?_eq_getElem hjj] at hj
   rw [← hj]
   exact h3) (by have := hrg.1; simp only [List.size_toArray]; omega) (fun v hv => flat_one l v (List.mem_of_mem_drop hv))
  rw [hR2]
  simpa using hthis
 have hA1 := hcA ((w.alloc (.cells ROW 60)).drew) (fun _ => rfl) hX
 have hA2 := hcA (w.drew.alloc (.cells ROW 60)) (fun _ => rfl) hX
 have hY : ((w.alloc (.cells ROW 60)).setRow w.heap.size R1.toArray).heap[w.heap.size]? = some (.cells R1.toArray 60 (0, 0)) := setRow_heap _ _ ROW _ _ _ hX
 have HY := hD hY
 have hw1 : IntKind.i64.wrap ((i : Int) + 1) = (i : Int) + 1 := IntWalk.i64_in _ (by omega)
 have hb1 : (0 : Int) ≤ (i : Int) + 1 := by omega
 have htn : ((i : Int) + 1).toNat = i + 1 := by omega
 have hGi : ¬ (G = i) := by omega
 have hGi1 : ¬ (G = i + 1) := by omega
 have hci : ¬ (c = i) := by omega
 have hb3 : (i : Int) + 1 ≤ (l.length : Int) + 1 := by omega
 have hb5 : (i : Int) ≤ (l.length : Int) := by omega
 have hb6 : i ≤ l.length := by omega
 have hz3 : (c : Int) < (l.length : Int) + 1 := by omega
 have mixed : Tryz.prog.follows Departure.mixedOrders = true := by kernel_rfl
 have HX := hD hX
 have HB := hD hcB
 clear hi0 hz0 hz1 hz2' hft hfd hold hG hROW hkk hRl hR0 hR1 hR2 hrg hcA hX hY ho hv hcB
 go_enter Tryz.func114, Tryz.ntmps114
 go_wp2_with (at_builtin; refine Lib.wpList_append_run _ rfl _ _ _ _ rfl _ _ rfl rfl _ _ (hrz _) ?_)
 have hB := HB.out (((w.alloc (.cells ROW 60)).drew.setRow w.heap.size R1.toArray).drew) (fun _ => rfl) HY.out
 clear hA1 hA2 hrz
 go_region_law_o (refine step_copy_runI rfl _ _ 27 27 rfl (.slice (some ⟨w.heap.size, (i + 1) * 2, none⟩) (l.length + 1 - (i + 1)) (G - (i + 1))) (.slice (some ⟨g, i * 2, none⟩) (l.length - i) (c - i)) (by simp [Act.eval, Act.put]) (by simp [Act.eval, Act.put]) (hB _ _ _) ?_)
 clear hB
 go_wp2
 go_ret
 have hfin : ((((w.alloc (.cells ROW 60)).drew.setRow w.heap.size R1.toArray).drew).setRow w.heap.size R2.toArray).heap[w.heap.size]? = some (.cells R2.toArray 60 (0, 0)) := setRow_heap _ _ R1.toArray _ _ _ HY.out
 refine ⟨w.heap.size, G, ?_, own_mid (p := (key, val)) hfin (by have := HR.out.2.1; simp only [List.size_toArray]; omega) hGn hG63 (Nat.le_of_lt hi) (by simpa using HR.out.2.2), .inr (nL _), ?_⟩
 ·have e1 : (l.take i ++ (key, val) :: l.drop i).length = l.length + 1 := by simp; omega
  rw [e1]; rfl
 ·refine ⟨rfl, rfl, rfl, ?_, fun k hk hne => ?_⟩
  ·rw [setRow_size]
   show w.heap.size ≤ ((w.alloc (.cells ROW 60)).drew.setRow w.heap.size R1.toArray).heap.size
   rw [setRow_size]
   show w.heap.size ≤ (w.alloc (.cells ROW 60)).heap.size
   simp
  ·rw [setRow_other _ _ _ k (Nat.ne_of_lt hk)]
   show ((w.alloc (.cells ROW 60)).drew.setRow w.heap.size R1.toArray).heap[k]? = _
   rw [setRow_other _ _ _ k (Nat.ne_of_lt hk)]
   exact Below.heap_alloc w _ k hk
theorem insert_new (g c vb : Nat) (l : PL) (key val : ByteArray) (w : World) (ho : OwnL w g c l) (hr : risingB l = true) (hn : l.length ≤ 1000) (hf : fndL l key = false) (hne : vb ≠ g) (hv : RowTo w vb 60 2 [.string key, .string val]) :
  Calls Tryz.prog 114 #[.slice (some ⟨g, 0, none⟩) l.length c, .int .i64 (posL l key), .slice (some ⟨vb, 0, none⟩) 1 1] w (InsPost w g (insL l key val)) := by
 rw [ins_new hr hf]
 have hp := posL_le l key
 by_cases h1 : posL l key = l.length
 ·rw [h1, List.take_length, List.drop_length]
  exact insert_end g c vb l key val w ho hn hv
 ·by_cases h2 : l.length + 1 ≤ c
  ·exact insert_room g c vb _ l key val w ho hn (by omega) h2 hne hv
  ·exact insert_grow g c vb _ l key val w ho hn (by omega) (by omega) hne hv
end Go.Proofs.YtpbaobmegomfpabGreatDoor
namespace Go.Proofs.YtpbaobmegomfpabGreatDoor
open Go.RowKit
theorem flat_set : ∀ (l : PL) (i : Nat) (p : ByteArray × ByteArray), flat (l.set i p) = ((flat l).set (i * 2) (.string p.1)).set (i * 2 + 1) (.string p.2)
 | [], i, p => by simp [flat_nil]
 | q :: l, 0, p => by simp [flat_cons]
 | q :: l, i + 1, p => by
  rw [sCS, flat_cons, flat_cons, flat_set l i p, show (i + 1) * 2 = i * 2 + 1 + 1 by omega, show i * 2 + 1 + 1 + 1 = (i * 2 + 1) + 1 + 1 by omega]
  simp only [sCS]
def Sz (l : PL) : Prop := ∀ p ∈ l, p.1.size ≤ 140737488351232 ∧ p.2.size ≤ 140737488351232
theorem Sz.ins {l : PL} {k v : ByteArray} (h : Sz l) (hk : k.size ≤ 140737488351232) (hv : v.size ≤ 140737488351232) : Sz (insL l k v) := fun q hq => by
 rcases ins_mem hq with rfl | hq
 ·exact ⟨hk, hv⟩
 ·exact h q hq
theorem OwnL.lst {w : World} {g c : Nat} {l : PL} (h : OwnL w g c l) (hn : l.length ≤ 1000) (hs : Sz l) : Lst w w.heap.size (.slice (some ⟨g, 0, none⟩) l.length c) l :=
 h.row.lst h.len h.row.lt (by omega) hs
theorem OwnL.below {w w' : World} {g c B : Nat} {l : PL} (h : OwnL w g c l) (hb : Below B w w') (hg : g < B) : OwnL w' g c l := ⟨h.row.below hb hg, h.len, h.most⟩
theorem OwnL.same {w w' : World} {g c : Nat} {l : PL} (h : OwnL w g c l) (e : w'.heap[g]? = w.heap[g]?) : OwnL w' g c l := ⟨h.row.same e, h.len, h.most⟩
theorem grown_of_below {w w' : World} (h : Below w.heap.size w w') (r : Option Nat) : w.grownBy w' r := ⟨h.os, h.tape, h.output, h.size, fun k hk _ => h.block k hk⟩
theorem grown_set {w w' : World} {g j : Nat} (h : w.grownBy w' (some g)) (u : Value) : w.grownBy (w'.setCell ⟨g, j, none⟩ u) (some g) :=
 ⟨h.os, h.tape, h.output, by simpa [World.setCell] using h.size, fun k hk hne => (Below.heap_setCell _ _ _ _ (fun e => hne (by rw [e]))).trans (h.block k hk hne)⟩
theorem grown_trans' {a b c : World} {r : Option Nat} (h : a.grownBy b r) (k : b.grownBy c r) : a.grownBy c r :=
 ⟨k.os.trans h.os, k.tape.trans h.tape, k.output.trans h.output, Nat.le_trans h.size k.size, fun i hi hne => (k.block i (Nat.lt_of_lt_of_le hi h.size) hne).trans (h.block i hi hne)⟩
set_option maxHeartbeats 1000000 in
theorem backInsert_any (g c : Nat) (l : PL) (key val : ByteArray) (w : World) (ho : OwnL w g c l) (hr : risingB l = true) (hn : l.length ≤ 1000) (hs : Sz l) :
  Calls Tryz.prog 94 #[.slice (some ⟨g, 0, none⟩) l.length c, .agg #[.string key, .string val]] w (InsPost w g (insL l key val)) := by
 have b0 : Below w.heap.size w (w.alloc (.cells #[.string key, .string val] 60)) := (Below.refl _ _).alloc (nL _) _
 have HL := hD (ho.lst hn hs)
 have HO := hD ho
 have HR := hD hr
 have HX := hD (RowTo.whole w #[.string key, .string val] 60)
 have hgw := ho.row.lt
 have hlc := ho.len
 have hcm := ho.most
 cases hf : fndL l key
 ·have HN := hD (fun (w9 : World) (vb : Nat) (h9 : OwnL w9 g c l) (hne : vb ≠ g) (hv : RowTo w9 vb 60 2 [.string key, .string val]) => insert_new g c vb l key val w9 h9 hr hn hf hne hv)
  have HF := hD hf
  clear hf ho hr hs
  go_enter Tryz.func94, Tryz.ntmps94
  go_wp2_with fail
  refine (place_any _ l key _ (HL.out.step b0) HR.out).mono ?_
  rw [HF.out]
  rintro e w1 ⟨rfl, hb1⟩
  have b1 := bel_add' b0 hb1 b0.size
  have X1 := HX.out.below hb1 HX.out.lt
  have x0 := X1.cell (j := 0) (by simp)
  have x1 := X1.cell (j := 1) (by simp)
  simp only [gCZ, gCS] at x0 x1
  have hsz1 := b1.size
  have B1 := hD b1
  clear X1 hb1 b1
  go_wp2_with fail
  refine (HN.out _ w1.heap.size ((HO.out.below B1.out hgw).same (Below.heap_alloc _ _ _ (by omega))) (by omega) (RowTo.whole w1 #[.string key, .string val] 60)).mono ?_
  rintro e w2 ⟨g', c', rfl, ho', hloc, hgr⟩
  go_wp2
  go_ret
  refine ⟨g', c', rfl, ho', hloc.imp id (fun h => ?_), grown_trans' (grown_of_below B1.out _) (grown_trans' (World.grownBy_alloc _ _ _) hgr)⟩
  simp at h
  omega
 ·have hp := fnd_pos hr hf
  have HI := hD (ins_found (v := val) hr hf)
  have HF := hD hf
  clear hf ho hr hs
  go_enter Tryz.func94, Tryz.ntmps94
  go_wp2_with fail
  refine (place_any _ l key _ (HL.out.step b0) HR.out).mono ?_
  rw [HF.out]
  rintro e w1 ⟨rfl, hb1⟩
  have b1 := bel_add' b0 hb1 b0.size
  have X1 := HX.out.below hb1 HX.out.lt
  have x0 := X1.cell (j := 0) (by simp)
  have x1 := X1.cell (j := 1) (by simp)
  simp only [gCZ, gCS] at x0 x1
  generalize hm : posL l key = m at *
  have HM := hD hm
  have O1 := HO.out.below b1 hgw
  obtain ⟨u0, f0⟩ := O1.row.any (j := m * 2) (by omega)
  obtain ⟨u1, f1⟩ := O1.row.any (j := m * 2 + 1) (by omega)
  have y0 := O1.row.frozen (m * 2)
  have y1 := O1.row.frozen (m * 2 + 1)
  have hpi : (m : Int) < (l.length : Int) := by omega
  have B1 := hD b1
  have OO := hD O1
  clear X1 hb1 b1 O1 hm
  go_wp2
  go_ret
  refine ⟨g, c, ?_, ?_, .inl rfl, grown_set (grown_set (grown_of_below B1.out _) _) _⟩
  ·rw [HI.out]; simp
  ·rw [HI.out]
   refine ⟨?_, by simpa using hlc, hcm⟩
   rw [flat_set]
   exact (OO.out.row.put (by rw [flat_length]; omega) _).put (by rw [List.length_set, flat_length]; omega) _
def findA : List PL → ByteArray → Option ByteArray
 | [], _ => none
 | l :: r, k => match atL l k with
  | some v => some v
  | none => findA r k
def ansOf (o : Option ByteArray) : Value := match o with
 | some v => .agg #[.int .i64 2, .string v, .int .i64 0]
 | none => .agg #[.int .i64 3, .string ⟨#[]⟩, .int .i64 0]
theorem findA_hit : ∀ {ls : List PL} {k v : ByteArray} {i : Nat} (hi : i < ls.length), (∀ j (hj : j < ls.length), j < i → fndL ls[j] k = false) → atL ls[i] k = some v → findA ls k = some v
 | l :: r, k, v, 0, _, _, h => by unfold findA; simp only [gCZ] at h; rw [h]
 | l :: r, k, v, i + 1, hi, hn, h => by
  have h0 := hn 0 (by simp) (by omega)
  unfold fndL at h0
  simp only [gCZ] at h0
  unfold findA
  cases e : atL l k with
  | some x => rw [e] at h0; cases h0
  | none => exact findA_hit (ls := r) (by simpa using hi) (fun j hj hji => hn (j + 1) (by simpa using hj) (by omega)) (by simpa using h)
theorem findA_miss : ∀ {ls : List PL} {k : ByteArray}, (∀ j (hj : j < ls.length), fndL ls[j] k = false) → findA ls k = none
 | [], _, _ => rfl
 | l :: r, k, hn => by
  have h0 := hn 0 (by simp)
  unfold fndL at h0
  simp only [gCZ] at h0
  unfold findA
  cases e : atL l k with
  | some x => rw [e] at h0; cases h0
  | none => exact findA_miss (ls := r) (fun j hj => hn (j + 1) (by simpa using hj))
def FindRel (w : World) (ls : List PL) (key : ByteArray) (k : Nat) (wr : World) : Prop :=
 (∀ j (hj : j < ls.length), j < k → fndL ls[j] key = false) ∧ RowTo wr w.heap.size 46 3 [.int .i64 0, .string ⟨#[]⟩, .int .i64 0] ∧ Below w.heap.size w wr
set_option maxHeartbeats 1000000 in
theorem find_any (key : ByteArray) (b : Nat) (ls : List PL) (vs : Nat → Value) (w : World) (hb : b < w.heap.size) (hl : ls.length ≤ 2)
  (hc : ∀ i (hi : i < ls.length), w.cell? ⟨b, i, none⟩ = some (vs i) ∧ Lst w w.heap.size (vs i) ls[i] ∧ risingB ls[i] = true) :
  Calls Tryz.prog 68 #[.string key, .slice (some ⟨b, 0, none⟩) ls.length ls.length] w fun e w' => e = .returned (ansOf (findA ls key)) ∧ Below w.heap.size w w' := by
 have HC := hD hc
 clear hc
 go_enter Tryz.func68, Tryz.ntmps68
 go_wp2
 go_loopw [11] (fun i wr => ∃ k : Nat, k ≤ ls.length ∧ i = .int .i64 k ∧ FindRel w ls key k wr) (fun i _ => ls.length - (intOf i).toNat)
 case atStart => exact ⟨0, by omega, rfl, fun j hj h => by omega, RowTo.whole w #[.int .i64 0, .string ⟨#[]⟩, .int .i64 0] 46, (Below.refl _ _).alloc (nL _) _⟩
 case round =>
  obtain ⟨k, hk, rfl, hno, hres, bel⟩ := hrel
  have y0 := hres.cell (j := 0) (by simp)
  have y1 := hres.cell (j := 1) (by simp)
  have y2 := hres.cell (j := 2) (by simp)
  have z0 := hres.frozen 0
  have z1 := hres.frozen 1
  have z2 := hres.frozen 2
  simp only [gCZ, gCS] at y0 y1 y2
  by_cases hlt : k < ls.length
  ·obtain ⟨c0, hlst, hrise⟩ := HC.out k hlt
   have d0 := (bel.cell (p := ⟨b, k, none⟩) hb).trans c0
   obtain ⟨A, c, hv, hc⟩ := hlst.form
   rw [hv] at d0 hlst
   have HL := hD hlst
   have HR := hD hrise
   have HN := hD hno
   have HS := hD hres
   have HB := hD bel
   have hkl : (k : Int) < (ls.length : Int) := by omega
   clear hlst hrise hno hres bel c0 hv
   cases hf : fndL ls[k] key
   ·have HF := hD hf
    clear hf
    go_wp2_with fail
    refine (place_any _ _ key _ (HL.out.step HB.out) HR.out).mono ?_
    rw [HF.out]
    rintro e w1 ⟨rfl, hb1⟩
    have HS1 := hD (HS.out.below hb1 HS.out.lt)
    have HB1 := hD (bel_add' HB.out hb1 HB.out.size)
    clear hb1
    go_wp2
    go_roundw
    case rel => exact ⟨k + 1, by omega, by go_num, (fun j hj hjk => if e : j = k then by subst e; exact HF.out else HN.out j hj (by omega)), HS1.out, HB1.out⟩
    case measure => simp [intOf]; omega
   ·have hp := fnd_pos HR.out hf
    have hat := (fnd_at HR.out hp).2 hf
    have HA := hD (findA_hit hlt HN.out hat)
    obtain ⟨b', off', rfl, hb', m0, m1⟩ := HL.out.pt hp
    have HF := hD hf
    clear hf hat
    go_wp2_with fail
    refine (place_any _ _ key _ (HL.out.step HB.out) HR.out).mono ?_
    rw [HF.out]
    rintro e w1 ⟨rfl, hb1⟩
    have HS1 := HS.out.below hb1 HS.out.lt
    have HB1 := bel_add' HB.out hb1 HB.out.size
    have n1 := (HB1.cell (p := ⟨b', off' + posL ls[k] key * 2 + 1, none⟩) hb').trans m1
    have r0 := HS1.cell (j := 0) (by simp)
    have r1 := HS1.cell (j := 1) (by simp)
    have r2 := HS1.cell (j := 2) (by simp)
    have s0 := HS1.frozen 0
    have s1 := HS1.frozen 1
    have s2 := HS1.frozen 2
    simp only [gCZ, gCS] at r0 r1 r2
    have HBB := hD HB1
    clear hb1 HS1 HB1 m0 m1
    have hpi : (posL ls[k] key : Int) < (ls[k].length : Int) := by omega
    generalize posL ls[k] key = m at *
    generalize ls[k][m].2 = x at *
    go_wp2
    refine bodyPost_ret (v := .agg #[.int .i64 2, .string x, .int .i64 0]) (by simp [results, Tryz.results68, go_sem, r0, r1, r2]) rfl ⟨by rw [HA.out]; rfl, ?_⟩
    exact ((HBB.out.setCell (by simp) _).setCell (by simp) _).setCell (by simp) _
  ·have HA := hD (findA_miss (fun j hj => hno j hj (by omega)))
   have HB := hD bel
   clear hno hres bel
   go_wp2
   refine bodyPost_ret (v := .agg #[.int .i64 3, .string ⟨#[]⟩, .int .i64 0]) (by simp [results, Tryz.results68, go_sem, y0, y1, y2]) rfl ⟨by rw [HA.out]; rfl, ?_⟩
   exact ((HB.out.setCell (by simp) _).setCell (by simp) _).setCell (by simp) _
end Go.Proofs.YtpbaobmegomfpabGreatDoor
namespace Go.Proofs.YtpbaobmegomfpabGreatDoor
open Go.RowKit
def cloneRen : Go.Shelf.Ren := ⟨fun | 25 => 72 | n => n, fun | 0 => 0 | 3 => 3 | 4 => 4 | 5 => 5 | 9 => 9 | 37 => 80 | 47 => 164 | n => n, fun n => n⟩
theorem cloneLays : LaysPu.n25 Tryz.prog cloneRen :=
 { mixed := (by kernel_rfl), f25 := (by kernel_rfl),
  t0 := (by kernel_rfl), a0 := (fun _ => by kernel_rfl), z0 := (fun _ => by kernel_rfl), v0 := (fun _ => by kernel_rfl), i0 := (by kernel_rfl),
  t3 := (by kernel_rfl), a3 := (fun _ => by kernel_rfl), z3 := (fun _ => by kernel_rfl), v3 := (fun _ => by kernel_rfl), i3 := (by kernel_rfl),
  t4 := (by kernel_rfl), a4 := (fun _ => by kernel_rfl), z4 := (fun _ => by kernel_rfl), v4 := (fun _ => by kernel_rfl), i4 := (by kernel_rfl),
  t5 := (by kernel_rfl), a5 := (fun _ => by kernel_rfl), z5 := (fun _ => by kernel_rfl), v5 := (fun _ => by kernel_rfl), i5 := (by kernel_rfl),
  t9 := (by kernel_rfl), a9 := (fun _ => by kernel_rfl), z9 := (fun _ => by kernel_rfl), v9 := (fun _ => by kernel_rfl), i9 := (by kernel_rfl),
  t37 := (by kernel_rfl), a37 := (fun _ => by kernel_rfl), z37 := (fun _ => by kernel_rfl), v37 := (fun _ => by kernel_rfl), i37 := (by kernel_rfl),
  t47 := (by kernel_rfl), a47 := (fun _ => by kernel_rfl), z47 := (fun _ => by kernel_rfl), v47 := (fun _ => by kernel_rfl), i47 := (by kernel_rfl) }
theorem clone_any (s : ByteArray) (w : World) (hs : s.size ≤ 281474976710656) :
  Calls Tryz.prog 46 #[.string s] w fun e w' => e = .returned (.string s) ∧ Below w.heap.size w w' := by
 go_enter Tryz.func46, Tryz.ntmps46
 go_wp2_with fail
 refine (AnyPu.stringslite_Clone cloneLays s _ hs).mono ?_
 rintro e w1 ⟨rfl, hb⟩
 go_wp2
 go_ret
 exact ⟨rfl, hb⟩
end Go.Proofs.YtpbaobmegomfpabGreatDoor
namespace Go.Proofs.YtpbaobmegomfpabGreatDoor
open Go.RowKit
def ansV (k : Int) (t : ByteArray) : Value := .agg #[.int .i64 k, .string t, .int .i64 0]
theorem failure_any (t : ByteArray) (w : World) :
  Calls Tryz.prog 64 #[.string t] w fun e w' => e = .returned (ansV 4 t) ∧ Below w.heap.size w w' := by
 go_enter Tryz.func64, Tryz.ntmps64
 go_wp2
 refine bodyPost_ret (v := ansV 4 t) (by simp [results, Tryz.results64, go_sem, ansV]) rfl ⟨rfl, ?_⟩
 repeat' (first | exact Below.refl _ _ | assumption | with_reducible refine below_drewN ?_ _ | with_reducible refine Below.drew ?_ | with_reducible refine Below.setCell ?_ ?_ _ | with_reducible refine Below.alloc ?_ ?_ _ | (simp; done) | (simp; omega))
theorem done_any (w : World) :
  Calls Tryz.prog 93 #[] w fun e w' => e = .returned (ansV 1 ⟨#[]⟩) ∧ Below w.heap.size w w' := by
 go_enter Tryz.func93, Tryz.ntmps93
 go_wp2
 refine bodyPost_ret (v := ansV 1 ⟨#[]⟩) (by simp [results, Tryz.results93, go_sem, ansV]) rfl ⟨rfl, ?_⟩
 repeat' (first | exact Below.refl _ _ | assumption | with_reducible refine below_drewN ?_ _ | with_reducible refine Below.drew ?_ | with_reducible refine Below.setCell ?_ ?_ _ | with_reducible refine Below.alloc ?_ ?_ _ | (simp; done) | (simp; omega))
structure Chg (w w' : World) (g pb po : Nat) (v : Value) : Prop where
 os : w'.os = w.os
 tape : w'.tape = w.tape
 output : w'.output = w.output
 size : w.heap.size ≤ w'.heap.size
 other : ∀ b, b < w.heap.size → b ≠ g → b ≠ pb → w'.heap[b]? = w.heap[b]?
 here : w'.heap[pb]? = (w.setCell ⟨pb, po, none⟩ v).heap[pb]?
def StorePost (w : World) (g pb po : Nat) (l' : PL) (e : Ending) (w' : World) : Prop :=
 ∃ g' c', e = .returned (ansV 1 ⟨#[]⟩) ∧ OwnL w' g' c' l' ∧ (g' = g ∨ w.heap.size ≤ g') ∧ Chg w w' g pb po (.slice (some ⟨g', 0, none⟩) l'.length c')
set_option maxHeartbeats 4000000 in
theorem store_full (g c pb po : Nat) (l : PL) (k : Int) (key val : ByteArray) (limit : Nat) (w : World) (ho : OwnL w g c l) (hr : risingB l = true) (hn : l.length ≤ 1000) (hs : Sz l)
  (hp : w.cell? ⟨pb, po, none⟩ = some (.slice (some ⟨g, 0, none⟩) l.length c)) (hf : fndL l key = false) (hl : limit ≤ l.length) :
  Calls Tryz.prog 70 #[.pointer (some ⟨pb, po, none⟩), .agg #[.int .i64 k, .string key, .string val], .int .i64 limit] w fun e w' => e = .returned (ansV 4 ⟨#[102, 117, 108, 108]⟩) ∧ Below w.heap.size w w' := by
 have hle : decide ((limit : Int) ≤ (l.length : Int)) = true := decide_eq_true (by omega)
 have hle' : decide (limit ≤ l.length) = true := decide_eq_true hl
 have HF := hD hf
 clear hf
 have hpb : pb < w.heap.size := World.block_lt_of_cell? w _ hp
 have b0 : Below w.heap.size w ((w.alloc (.cells #[.int .i64 k, .string key, .string val] 41)).alloc (.cells #[.int .i64 0, .string ⟨#[]⟩, .int .i64 0] 46)) := ((Below.refl _ _).alloc (nL _) _).alloc (by simp) _
 have HL := hD (ho.lst hn hs)
 have HR := hD hr
 have HO := hD ho
 have hgw := ho.row.lt
 clear ho hr hs
 go_enter Tryz.func70, Tryz.ntmps70
 go_wp2
 have q0 := (b0.cell (p := ⟨pb, po, none⟩) hpb).trans hp
 have q1 : ((w.alloc (.cells #[.int .i64 k, .string key, .string val] 41)).alloc (.cells #[.int .i64 0, .string ⟨#[]⟩, .int .i64 0] 46)).cell? ⟨w.heap.size, 1, none⟩ = some (.string key) := by simp [go_sem]
 have q2 : ((w.alloc (.cells #[.int .i64 k, .string key, .string val] 41)).alloc (.cells #[.int .i64 0, .string ⟨#[]⟩, .int .i64 0] 46)).cell? ⟨w.heap.size, 2, none⟩ = some (.string val) := by simp [go_sem]
 have X0 : Hid (RowTo ((w.alloc (.cells #[.int .i64 k, .string key, .string val] 41)).alloc (.cells #[.int .i64 0, .string ⟨#[]⟩, .int .i64 0] 46)) (w.heap.size + 1) 46 3 [.int .i64 0, .string ⟨#[]⟩, .int .i64 0]) := by
  have := RowTo.whole (w.alloc (.cells #[.int .i64 k, .string key, .string val] 41)) #[.int .i64 0, .string ⟨#[]⟩, .int .i64 0] 46
  exact hD (by simpa using this)
 have hz : ((w.alloc (.cells #[.int .i64 k, .string key, .string val] 41)).alloc (.cells #[.int .i64 0, .string ⟨#[]⟩, .int .i64 0] 46)).heap.size = w.heap.size + 1 + 1 := by simp
 have B0 := hD b0
 clear b0
 generalize ((w.alloc (.cells #[.int .i64 k, .string key, .string val] 41)).alloc (.cells #[.int .i64 0, .string ⟨#[]⟩, .int .i64 0] 46)) = W0 at *
 have hz0 : w.heap.size < W0.heap.size := by omega
 have hz1 : pb < W0.heap.size := by omega
 have HZ := hD hz
 clear hz
 have kb := Below.refl W0.heap.size W0
 have dS := hD (show W0.drew.cell? ⟨pb, po, none⟩ = some (.slice (some ⟨g, 0, none⟩) l.length c) ∧ W0.drew.cell? ⟨w.heap.size, 1, none⟩ = some (.string key) from ⟨q0, q1⟩)
 go_region_held3 (fun wx => wx.cell? ⟨pb, po, none⟩ = some (.slice (some ⟨g, 0, none⟩) l.length c) ∧ wx.cell? ⟨w.heap.size, 1, none⟩ = some (.string key))
  (first
   | with_reducible exact ⟨q0, q1⟩
   | with_reducible exact dS.out
   | with_reducible exact ⟨(kb.cell (p := ⟨pb, po, none⟩) hz1).trans q0, (kb.cell (p := ⟨w.heap.size, 1, none⟩) hz0).trans q1⟩)
  (first
   | (
    go_at_call 95
    refine (place_any _ l key _ (by first | exact (HL.out.step B0.out) | exact (HL.out.step B0.out.drew) | exact (HL.out.step (below_drewN B0.out _))) HR.out).mono ?_
    rw [HF.out]
    rintro e w8 ⟨rfl, hy⟩
    have kb : Below W0.heap.size W0 w8 := by first | exact kb.trans (hy.mono kb.size) | exact kb.trans ⟨hy.os, hy.tape, hy.output, hy.size, fun i hi => hy.block i (Nat.lt_of_lt_of_le hi kb.size)⟩))
 have p0 := (kb.cell (p := ⟨pb, po, none⟩) hz1).trans q0
 have p1 := (kb.cell (p := ⟨w.heap.size, 1, none⟩) hz0).trans q1
 have p2 := (kb.cell (p := ⟨w.heap.size, 2, none⟩) hz0).trans q2
 have KB := hD kb
 have B8 := hD (bel_add' B0.out kb B0.out.size)
 have X8 := hD (X0.out.below kb X0.out.lt)
 have hs8 := kb.size
 clear kb q0 q1 q2 dS
 go_wp2_with fail
 refine (failure_any _ _).mono ?_
 rintro e w9 ⟨rfl, hb9⟩
 have X9 := X8.out.below hb9 X8.out.lt
 have r0 := X9.cell (j := 0) (by simp)
 have r1 := X9.cell (j := 1) (by simp)
 have r2 := X9.cell (j := 2) (by simp)
 have s0 := X9.frozen 0
 have s1 := X9.frozen 1
 have s2 := X9.frozen 2
 simp only [gCZ, gCS] at r0 r1 r2
 have B9 := hD (bel_add' B8.out hb9 B8.out.size)
 clear X9 hb9
 unfold ansV
 go_wp2
 refine bodyPost_ret (v := .agg #[.int .i64 4, .string ⟨#[102, 117, 108, 108]⟩, .int .i64 0]) (by simp [results, Tryz.results70, go_sem, r0, r1, r2]) rfl ⟨rfl, ?_⟩
 exact ((B9.out.setCell (by simp) _).setCell (by simp) _).setCell (by simp) _
theorem setCell_block {a b : World} {p : Addr} {v : Value} (h : a.heap[p.block]? = b.heap[p.block]?) : (a.setCell p v).heap[p.block]? = (b.setCell p v).heap[p.block]? := by
 simp only [World.setCell, Array.getElem?_modify, h]
theorem store_fin {w w8 wB w9 : World} {g pb po g' c' R : Nat} {l' : PL} {x y z : Value} (b8 : Below w.heap.size w w8) (hR : R = w.heap.size + 1) (hs8 : w.heap.size + 1 + 1 ≤ w8.heap.size) (hpb : pb < w.heap.size) (hg : g < w.heap.size) (hne : pb ≠ g) (hgB : w8.grownBy wB (some g)) (ho : OwnL wB g' c' l') (hl : g' = g ∨ w8.heap.size ≤ g')
  (hb9 : Below (wB.setCell ⟨pb, po, none⟩ (.slice (some ⟨g', 0, none⟩) l'.length c')).heap.size (wB.setCell ⟨pb, po, none⟩ (.slice (some ⟨g', 0, none⟩) l'.length c')) w9) :
  StorePost w g pb po l' (.returned (ansV 1 ⟨#[]⟩)) (((w9.setCell ⟨R, 0, none⟩ x).setCell ⟨R, 1, none⟩ y).setCell ⟨R, 2, none⟩ z) := by
 subst hR
 have hsB := hgB.size
 have hs9 : wB.heap.size ≤ w9.heap.size := by have := hb9.size; simpa [World.setCell] using this
 have hgl := ho.row.lt
 have hg' : pb ≠ g' := by rcases hl with h | h <;> omega
 have hR' : w.heap.size + 1 ≠ g' := by rcases hl with h | h <;> omega
 refine ⟨g', c', rfl, ?_, hl.imp id (fun h => by omega), ?_⟩
 ·have o1 : OwnL w9 g' c' l' := ⟨(ho.row.other hg' _).below hb9 (by simpa [World.setCell] using hgl), ho.len, ho.most⟩
  exact ⟨((o1.row.other hR' _).other hR' _).other hR' _, o1.len, o1.most⟩
 ·have blk : ∀ b, b ≠ w.heap.size + 1 → (((w9.setCell ⟨w.heap.size + 1, 0, none⟩ x).setCell ⟨w.heap.size + 1, 1, none⟩ y).setCell ⟨w.heap.size + 1, 2, none⟩ z).heap[b]? = w9.heap[b]? := fun b hb => by
   rw [Below.heap_setCell _ _ _ _ hb, Below.heap_setCell _ _ _ _ hb, Below.heap_setCell _ _ _ _ hb]
  refine ⟨?_, ?_, ?_, ?_, fun b hb h1 h2 => ?_, ?_⟩
  ·exact (hb9.os.trans hgB.os).trans b8.os
  ·exact (hb9.tape.trans hgB.tape).trans b8.tape
  ·exact (hb9.output.trans hgB.output).trans b8.output
  ·have : w.heap.size ≤ w9.heap.size := by omega
   simpa [World.setCell] using this
  ·rw [blk b (by omega), hb9.block b (by have : b < wB.heap.size := by omega
                      simpa [World.setCell] using this), Below.heap_setCell _ _ _ _ h2, hgB.block b (by omega) (fun e => h1 (by injection e)), b8.block b hb]
  ·rw [blk pb (by omega), hb9.block pb (by have : pb < wB.heap.size := by omega
                       simpa [World.setCell] using this)]
   exact setCell_block (p := ⟨pb, po, none⟩) ((hgB.block pb (by omega) (fun e => hne (by injection e))).trans (b8.block pb hpb))
end Go.Proofs.YtpbaobmegomfpabGreatDoor
namespace Go.Proofs.YtpbaobmegomfpabGreatDoor
open Go.RowKit
set_option maxHeartbeats 4000000 in
theorem store_found (g c pb po : Nat) (l : PL) (k : Int) (key val : ByteArray) (limit : Nat) (w : World) (ho : OwnL w g c l) (hr : risingB l = true) (hn : l.length ≤ 1000) (hs : Sz l)
  (hp : w.cell? ⟨pb, po, none⟩ = some (.slice (some ⟨g, 0, none⟩) l.length c)) (hpf : w.frozen? ⟨pb, po, none⟩ = false) (hne : pb ≠ g) (hk : key.size ≤ 140737488351232) (hv : val.size ≤ 140737488351232) (hf : fndL l key = true) :
  Calls Tryz.prog 70 #[.pointer (some ⟨pb, po, none⟩), .agg #[.int .i64 k, .string key, .string val], .int .i64 limit] w (StorePost w g pb po (insL l key val)) := by
 have HI := hD (fun (w9 : World) (h9 : OwnL w9 g c l) => backInsert_any g c l key val w9 h9 hr hn hs)
 have HF := hD hf
 clear hf
 have hpb : pb < w.heap.size := World.block_lt_of_cell? w _ hp
 have b0 : Below w.heap.size w ((w.alloc (.cells #[.int .i64 k, .string key, .string val] 41)).alloc (.cells #[.int .i64 0, .string ⟨#[]⟩, .int .i64 0] 46)) := ((Below.refl _ _).alloc (nL _) _).alloc (by simp) _
 have HL := hD (ho.lst hn hs)
 have HR := hD hr
 have HO := hD ho
 have hgw := ho.row.lt
 clear ho hr hs
 go_enter Tryz.func70, Tryz.ntmps70
 go_wp2
 have q0 := (b0.cell (p := ⟨pb, po, none⟩) hpb).trans hp
 have q1 : ((w.alloc (.cells #[.int .i64 k, .string key, .string val] 41)).alloc (.cells #[.int .i64 0, .string ⟨#[]⟩, .int .i64 0] 46)).cell? ⟨w.heap.size, 1, none⟩ = some (.string key) := by simp [go_sem]
 have q2 : ((w.alloc (.cells #[.int .i64 k, .string key, .string val] 41)).alloc (.cells #[.int .i64 0, .string ⟨#[]⟩, .int .i64 0] 46)).cell? ⟨w.heap.size, 2, none⟩ = some (.string val) := by simp [go_sem]
 have X0 : Hid (RowTo ((w.alloc (.cells #[.int .i64 k, .string key, .string val] 41)).alloc (.cells #[.int .i64 0, .string ⟨#[]⟩, .int .i64 0] 46)) (w.heap.size + 1) 46 3 [.int .i64 0, .string ⟨#[]⟩, .int .i64 0]) := by
  have := RowTo.whole (w.alloc (.cells #[.int .i64 k, .string key, .string val] 41)) #[.int .i64 0, .string ⟨#[]⟩, .int .i64 0] 46
  exact hD (by simpa using this)
 have hz : ((w.alloc (.cells #[.int .i64 k, .string key, .string val] 41)).alloc (.cells #[.int .i64 0, .string ⟨#[]⟩, .int .i64 0] 46)).heap.size = w.heap.size + 1 + 1 := by simp
 have B0 := hD b0
 clear b0
 generalize ((w.alloc (.cells #[.int .i64 k, .string key, .string val] 41)).alloc (.cells #[.int .i64 0, .string ⟨#[]⟩, .int .i64 0] 46)) = W0 at *
 have hz0 : w.heap.size < W0.heap.size := by omega
 have hz1 : pb < W0.heap.size := by omega
 have HZ := hD hz
 clear hz
 have kb := Below.refl W0.heap.size W0
 have dS := hD (show W0.drew.cell? ⟨pb, po, none⟩ = some (.slice (some ⟨g, 0, none⟩) l.length c) ∧ W0.drew.cell? ⟨w.heap.size, 1, none⟩ = some (.string key) from ⟨q0, q1⟩)
 go_region_held3 (fun wx => wx.cell? ⟨pb, po, none⟩ = some (.slice (some ⟨g, 0, none⟩) l.length c) ∧ wx.cell? ⟨w.heap.size, 1, none⟩ = some (.string key))
  (first
   | with_reducible exact ⟨q0, q1⟩
   | with_reducible exact dS.out
   | with_reducible exact ⟨(kb.cell (p := ⟨pb, po, none⟩) hz1).trans q0, (kb.cell (p := ⟨w.heap.size, 1, none⟩) hz0).trans q1⟩)
  (first
   | (
    go_at_call 95
    refine (place_any _ l key _ (by first | exact (HL.out.step B0.out) | exact (HL.out.step B0.out.drew) | exact (HL.out.step (below_drewN B0.out _))) HR.out).mono ?_
    rw [HF.out]
    rintro e w8 ⟨rfl, hy⟩
    have kb : Below W0.heap.size W0 w8 := by first | exact kb.trans (hy.mono kb.size) | exact kb.trans ⟨hy.os, hy.tape, hy.output, hy.size, fun i hi => hy.block i (Nat.lt_of_lt_of_le hi kb.size)⟩))
 have p0 := (kb.cell (p := ⟨pb, po, none⟩) hz1).trans q0
 have p1 := (kb.cell (p := ⟨w.heap.size, 1, none⟩) hz0).trans q1
 have p2 := (kb.cell (p := ⟨w.heap.size, 2, none⟩) hz0).trans q2
 have KB := hD kb
 have B8 := hD (bel_add' B0.out kb B0.out.size)
 have X8 := hD (X0.out.below kb X0.out.lt)
 have hs8 := kb.size
 clear kb q0 q1 q2 dS
 have O8 := hD (HO.out.below B8.out hgw)
 have pf := (B8.out.frozen (p := ⟨pb, po, none⟩) hpb).trans hpf
 have P8 := hD (And.intro p0 (And.intro p1 (And.intro p2 pf)))
 have hw8 : w.heap.size < w8.heap.size := by omega
 have hpb8 : pb < w8.heap.size := by omega
 have hg8 : g < w8.heap.size := by omega
 clear hp hpf hy
 go_wp2
 have kb := Below.refl w8.heap.size w8
 go_region_with (first
  | (
   go_at_call 94
   refine (HI.out _ (by first | exact O8.out.below kb hg8 | exact (O8.out.below kb hg8).same rfl)).mono ?_
   rintro e wB ⟨g', c', rfl, ho', hloc, hgr⟩
   have hl8 : g' = g ∨ w8.heap.size ≤ g' := hloc.imp id (fun h => Nat.le_trans kb.size h)
   have hgB : w8.grownBy wB (some g) := by first | exact grown_trans' (grown_of_below kb _) hgr | exact grown_trans' (grown_of_below kb _) ⟨hgr.os, hgr.tape, hgr.output, hgr.size, hgr.block⟩
   have p0 : wB.cell? ⟨pb, po, none⟩ = some (.slice (some ⟨g, 0, none⟩) l.length c) := (World.cell?_of_block (hgB.block pb hpb8 (fun e => hne (by injection e)))).trans P8.out.1
   have pf : wB.frozen? ⟨pb, po, none⟩ = false := (World.frozen?_of_block (hgB.block pb hpb8 (fun e => hne (by injection e)))).trans P8.out.2.2.2)
  | (
   go_at_call_of 46 (Value.string key)
   refine (clone_any key _ (by omega)).mono ?_
   rintro e wA ⟨rfl, hy⟩
   have kb : Below w8.heap.size w8 wA := by first | exact kb.trans (hy.mono kb.size) | exact kb.trans ⟨hy.os, hy.tape, hy.output, hy.size, fun i hi => hy.block i (Nat.lt_of_lt_of_le hi kb.size)⟩
   have p0 := (kb.cell (p := ⟨pb, po, none⟩) hpb8).trans P8.out.1
   have p1 := (kb.cell (p := ⟨w.heap.size, 1, none⟩) hw8).trans P8.out.2.1
   have p2 := (kb.cell (p := ⟨w.heap.size, 2, none⟩) hw8).trans P8.out.2.2.1)
  | (
   go_at_call_of 46 (Value.string val)
   refine (clone_any val _ (by omega)).mono ?_
   rintro e wA ⟨rfl, hy⟩
   have kb : Below w8.heap.size w8 wA := by first | exact kb.trans (hy.mono kb.size) | exact kb.trans ⟨hy.os, hy.tape, hy.output, hy.size, fun i hi => hy.block i (Nat.lt_of_lt_of_le hi kb.size)⟩
   have p0 := (kb.cell (p := ⟨pb, po, none⟩) hpb8).trans P8.out.1
   have p1 := (kb.cell (p := ⟨w.heap.size, 1, none⟩) hw8).trans P8.out.2.1
   have p2 := (kb.cell (p := ⟨w.heap.size, 2, none⟩) hw8).trans P8.out.2.2.1))
 all_goals
  have HZ8 := hD (And.intro ho' (And.intro hl8 hgB))
  clear ho' hl8 hgB hloc hgr p0 pf
  have X9 := hD ((X8.out.same (HZ8.out.2.2.block _ X8.out.lt (fun e => by injection e; omega))).other (p := ⟨pb, po, none⟩) (by show pb ≠ _; omega) (.slice (some ⟨g', 0, none⟩) (insL l key val).length c'))
  go_wp2_with fail
  refine (done_any _).mono ?_
  rintro e w9 ⟨rfl, hb9⟩
  have XX := X9.out.below hb9 X9.out.lt
  have r0 := XX.cell (j := 0) (by simp)
  have r1 := XX.cell (j := 1) (by simp)
  have r2 := XX.cell (j := 2) (by simp)
  have s0 := XX.frozen 0
  have s1 := XX.frozen 1
  have s2 := XX.frozen 2
  simp only [gCZ, gCS] at r0 r1 r2
  have H9 := hD hb9
  clear XX hb9
  unfold ansV
  go_wp2
  refine bodyPost_ret (v := .agg #[.int .i64 1, .string ⟨#[]⟩, .int .i64 0]) (by simp [results, Tryz.results70, go_sem, r0, r1, r2]) rfl ?_
  exact store_fin B8.out rfl (by have := HZ.out; omega) hpb hgw hne HZ8.out.2.2 HZ8.out.1 HZ8.out.2.1 H9.out
end Go.Proofs.YtpbaobmegomfpabGreatDoor
namespace Go.Proofs.YtpbaobmegomfpabGreatDoor
open Go.RowKit
set_option maxHeartbeats 4000000 in
theorem store_room (g c pb po : Nat) (l : PL) (k : Int) (key val : ByteArray) (limit : Nat) (w : World) (ho : OwnL w g c l) (hr : risingB l = true) (hn : l.length ≤ 1000) (hs : Sz l)
  (hp : w.cell? ⟨pb, po, none⟩ = some (.slice (some ⟨g, 0, none⟩) l.length c)) (hpf : w.frozen? ⟨pb, po, none⟩ = false) (hne : pb ≠ g) (hk : key.size ≤ 140737488351232) (hv : val.size ≤ 140737488351232) (hf : fndL l key = false) (hlim : l.length < limit) :
  Calls Tryz.prog 70 #[.pointer (some ⟨pb, po, none⟩), .agg #[.int .i64 k, .string key, .string val], .int .i64 limit] w (StorePost w g pb po (insL l key val)) := by
 have HI := hD (fun (w9 : World) (h9 : OwnL w9 g c l) => backInsert_any g c l key val w9 h9 hr hn hs)
 have HF := hD hf
 have hd1 : decide ((limit : Int) ≤ (l.length : Int)) = false := decide_eq_false (by omega)
 have hd2 : decide (limit ≤ l.length) = false := decide_eq_false (by omega)
 clear hf
 have hpb : pb < w.heap.size := World.block_lt_of_cell? w _ hp
 have b0 : Below w.heap.size w ((w.alloc (.cells #[.int .i64 k, .string key, .string val] 41)).alloc (.cells #[.int .i64 0, .string ⟨#[]⟩, .int .i64 0] 46)) := ((Below.refl _ _).alloc (nL _) _).alloc (by simp) _
 have HL := hD (ho.lst hn hs)
 have HR := hD hr
 have HO := hD ho
 have hgw := ho.row.lt
 clear ho hr hs
 go_enter Tryz.func70, Tryz.ntmps70
 go_wp2
 have q0 := (b0.cell (p := ⟨pb, po, none⟩) hpb).trans hp
 have q1 : ((w.alloc (.cells #[.int .i64 k, .string key, .string val] 41)).alloc (.cells #[.int .i64 0, .string ⟨#[]⟩, .int .i64 0] 46)).cell? ⟨w.heap.size, 1, none⟩ = some (.string key) := by simp [go_sem]
 have q2 : ((w.alloc (.cells #[.int .i64 k, .string key, .string val] 41)).alloc (.cells #[.int .i64 0, .string ⟨#[]⟩, .int .i64 0] 46)).cell? ⟨w.heap.size, 2, none⟩ = some (.string val) := by simp [go_sem]
 have X0 : Hid (RowTo ((w.alloc (.cells #[.int .i64 k, .string key, .string val] 41)).alloc (.cells #[.int .i64 0, .string ⟨#[]⟩, .int .i64 0] 46)) (w.heap.size + 1) 46 3 [.int .i64 0, .string ⟨#[]⟩, .int .i64 0]) := by
  have := RowTo.whole (w.alloc (.cells #[.int .i64 k, .string key, .string val] 41)) #[.int .i64 0, .string ⟨#[]⟩, .int .i64 0] 46
  exact hD (by simpa using this)
 have hz : ((w.alloc (.cells #[.int .i64 k, .string key, .string val] 41)).alloc (.cells #[.int .i64 0, .string ⟨#[]⟩, .int .i64 0] 46)).heap.size = w.heap.size + 1 + 1 := by simp
 have B0 := hD b0
 clear b0
 generalize ((w.alloc (.cells #[.int .i64 k, .string key, .string val] 41)).alloc (.cells #[.int .i64 0, .string ⟨#[]⟩, .int .i64 0] 46)) = W0 at *
 have hz0 : w.heap.size < W0.heap.size := by omega
 have hz1 : pb < W0.heap.size := by omega
 have HZ := hD hz
 clear hz
 have kb := Below.refl W0.heap.size W0
 have dS := hD (show W0.drew.cell? ⟨pb, po, none⟩ = some (.slice (some ⟨g, 0, none⟩) l.length c) ∧ W0.drew.cell? ⟨w.heap.size, 1, none⟩ = some (.string key) from ⟨q0, q1⟩)
 go_region_held3 (fun wx => wx.cell? ⟨pb, po, none⟩ = some (.slice (some ⟨g, 0, none⟩) l.length c) ∧ wx.cell? ⟨w.heap.size, 1, none⟩ = some (.string key))
  (first
   | with_reducible exact ⟨q0, q1⟩
   | with_reducible exact dS.out
   | with_reducible exact ⟨(kb.cell (p := ⟨pb, po, none⟩) hz1).trans q0, (kb.cell (p := ⟨w.heap.size, 1, none⟩) hz0).trans q1⟩)
  (first
   | (
    go_at_call 95
    refine (place_any _ l key _ (by first | exact (HL.out.step B0.out) | exact (HL.out.step B0.out.drew) | exact (HL.out.step (below_drewN B0.out _))) HR.out).mono ?_
    rw [HF.out]
    rintro e w8 ⟨rfl, hy⟩
    have kb : Below W0.heap.size W0 w8 := by first | exact kb.trans (hy.mono kb.size) | exact kb.trans ⟨hy.os, hy.tape, hy.output, hy.size, fun i hi => hy.block i (Nat.lt_of_lt_of_le hi kb.size)⟩))
 have p0 := (kb.cell (p := ⟨pb, po, none⟩) hz1).trans q0
 have p1 := (kb.cell (p := ⟨w.heap.size, 1, none⟩) hz0).trans q1
 have p2 := (kb.cell (p := ⟨w.heap.size, 2, none⟩) hz0).trans q2
 have KB := hD kb
 have B8 := hD (bel_add' B0.out kb B0.out.size)
 have X8 := hD (X0.out.below kb X0.out.lt)
 have hs8 := kb.size
 clear kb q0 q1 q2 dS
 have O8 := hD (HO.out.below B8.out hgw)
 have pf := (B8.out.frozen (p := ⟨pb, po, none⟩) hpb).trans hpf
 have P8 := hD (And.intro p0 (And.intro p1 (And.intro p2 pf)))
 have hw8 : w.heap.size < w8.heap.size := by omega
 have hpb8 : pb < w8.heap.size := by omega
 have hg8 : g < w8.heap.size := by omega
 clear hp hpf hy
 go_wp2
 have kb := Below.refl w8.heap.size w8
 go_region_with (first
  | (
   go_at_call 94
   refine (HI.out _ (by first | exact O8.out.below kb hg8 | exact (O8.out.below kb hg8).same rfl)).mono ?_
   rintro e wB ⟨g', c', rfl, ho', hloc, hgr⟩
   have hl8 : g' = g ∨ w8.heap.size ≤ g' := hloc.imp id (fun h => Nat.le_trans kb.size h)
   have hgB : w8.grownBy wB (some g) := by first | exact grown_trans' (grown_of_below kb _) hgr | exact grown_trans' (grown_of_below kb _) ⟨hgr.os, hgr.tape, hgr.output, hgr.size, hgr.block⟩
   have p0 : wB.cell? ⟨pb, po, none⟩ = some (.slice (some ⟨g, 0, none⟩) l.length c) := (World.cell?_of_block (hgB.block pb hpb8 (fun e => hne (by injection e)))).trans P8.out.1
   have pf : wB.frozen? ⟨pb, po, none⟩ = false := (World.frozen?_of_block (hgB.block pb hpb8 (fun e => hne (by injection e)))).trans P8.out.2.2.2)
  | (
   go_at_call_of 46 (Value.string key)
   refine (clone_any key _ (by omega)).mono ?_
   rintro e wA ⟨rfl, hy⟩
   have kb : Below w8.heap.size w8 wA := by first | exact kb.trans (hy.mono kb.size) | exact kb.trans ⟨hy.os, hy.tape, hy.output, hy.size, fun i hi => hy.block i (Nat.lt_of_lt_of_le hi kb.size)⟩
   have p0 := (kb.cell (p := ⟨pb, po, none⟩) hpb8).trans P8.out.1
   have p1 := (kb.cell (p := ⟨w.heap.size, 1, none⟩) hw8).trans P8.out.2.1
   have p2 := (kb.cell (p := ⟨w.heap.size, 2, none⟩) hw8).trans P8.out.2.2.1)
  | (
   go_at_call_of 46 (Value.string val)
   refine (clone_any val _ (by omega)).mono ?_
   rintro e wA ⟨rfl, hy⟩
   have kb : Below w8.heap.size w8 wA := by first | exact kb.trans (hy.mono kb.size) | exact kb.trans ⟨hy.os, hy.tape, hy.output, hy.size, fun i hi => hy.block i (Nat.lt_of_lt_of_le hi kb.size)⟩
   have p0 := (kb.cell (p := ⟨pb, po, none⟩) hpb8).trans P8.out.1
   have p1 := (kb.cell (p := ⟨w.heap.size, 1, none⟩) hw8).trans P8.out.2.1
   have p2 := (kb.cell (p := ⟨w.heap.size, 2, none⟩) hw8).trans P8.out.2.2.1))
 all_goals
  have HZ8 := hD (And.intro ho' (And.intro hl8 hgB))
  clear ho' hl8 hgB hloc hgr p0 pf
  have X9 := hD ((X8.out.same (HZ8.out.2.2.block _ X8.out.lt (fun e => by injection e; omega))).other (p := ⟨pb, po, none⟩) (by show pb ≠ _; omega) (.slice (some ⟨g', 0, none⟩) (insL l key val).length c'))
  go_wp2_with fail
  refine (done_any _).mono ?_
  rintro e w9 ⟨rfl, hb9⟩
  have XX := X9.out.below hb9 X9.out.lt
  have r0 := XX.cell (j := 0) (by simp)
  have r1 := XX.cell (j := 1) (by simp)
  have r2 := XX.cell (j := 2) (by simp)
  have s0 := XX.frozen 0
  have s1 := XX.frozen 1
  have s2 := XX.frozen 2
  simp only [gCZ, gCS] at r0 r1 r2
  have H9 := hD hb9
  clear XX hb9
  unfold ansV
  go_wp2
  refine bodyPost_ret (v := .agg #[.int .i64 1, .string ⟨#[]⟩, .int .i64 0]) (by simp [results, Tryz.results70, go_sem, r0, r1, r2]) rfl ?_
  exact store_fin B8.out rfl (by have := HZ.out; omega) hpb hgw hne HZ8.out.2.2 HZ8.out.1 HZ8.out.2.1 H9.out
end Go.Proofs.YtpbaobmegomfpabGreatDoor
namespace Go.Proofs.YtpbaobmegomfpabGreatDoor
open Go.RowKit
def sessB (s : Sess) : Bool :=
 inB 0 s.st 2 && (pairsB s.set 6 9 && (pairsB s.prep 6 11 && (pairsB s.sav 6 9 && (pairsB s.wr 100 10 && (!((s.st == 0) && decide (0 < s.sav.length)) && !((s.st != 1) && decide (0 < s.wr.length)))))))
def heldB (ss : List Sess) (me : Int) (key : ByteArray) : Bool := (List.range ss.length).any fun i => decide ((i : Int) ≠ me) && ((ss[i]?).any fun s => (atL s.wr key).isSome)
def apartB (ss : List Sess) : Bool := (List.range ss.length).all fun (i : Nat) => (ss[i]?).all fun s => s.wr.all fun p => !heldB ss i p.1
def allF (out : PL) (l : PL) : PL := l.foldl (fun a p => plusL a p.1 ⟨#[]⟩) out
def allL (W : Wd) : PL := allF W.rows (W.ss.flatMap (·.wr))
def worldB (W : Wd) : Bool := (pairsB W.rows 100 10 && decide (W.ss.length ≤ 8)) && (W.ss.all sessB && (apartB W.ss && decide ((allL W).length ≤ 100)))
theorem heldB_yes {ss : List Sess} {me : Int} {key : ByteArray} {k : Nat} (hk : k < ss.length) (h : (atL ss[k].wr key).isSome = true) (hne : (k : Int) ≠ me) : heldB ss me key = true := by
 unfold heldB
 rw [List.any_eq_true]
 refine ⟨k, List.mem_range.2 hk, ?_⟩
 rw [List.getElem?_eq_getElem hk, decide_eq_true hne, Bool.true_and]
 exact h
theorem heldB_no {ss : List Sess} {me : Int} {key : ByteArray} (h : ∀ k (hk : k < ss.length), (atL ss[k].wr key).isSome = true → (k : Int) = me) : heldB ss me key = false := by
 unfold heldB
 rw [List.any_eq_false]
 intro k hk
 have hk := List.mem_range.1 hk
 rw [List.getElem?_eq_getElem hk]
 simp only [Bool.and_eq_true, decide_eq_true_eq, not_and]
 intro hne hs
 exact hne (h k hk hs)
theorem heldB_iff {ss : List Sess} {me : Int} {key : ByteArray} : heldB ss me key = true ↔ ∃ k, ∃ hk : k < ss.length, (atL ss[k].wr key).isSome = true ∧ (k : Int) ≠ me := by
 constructor
 ·intro h
  apply Classical.byContradiction
  intro hn
  have : heldB ss me key = false := heldB_no (fun k hk hs => Classical.byContradiction fun hne => hn ⟨k, hk, hs, hne⟩)
  rw [h] at this; cases this
 ·rintro ⟨k, hk, hs, hne⟩; exact heldB_yes hk hs hne
theorem apartB_iff {ss : List Sess} : apartB ss = true ↔ ∀ i (hi : i < ss.length), ∀ p ∈ ss[i].wr, heldB ss i p.1 = false := by
 unfold apartB
 rw [List.all_eq_true]
 constructor
 ·intro h i hi p hp
  have := h i (List.mem_range.2 hi)
  rw [List.getElem?_eq_getElem hi] at this
  have := List.all_eq_true.1 this p hp
  simpa using this
 ·intro h i hi
  have hi := List.mem_range.1 hi
  rw [List.getElem?_eq_getElem hi]
  show (ss[i].wr.all _) = true
  rw [List.all_eq_true]
  intro p hp
  rw [h i hi p hp]; rfl
theorem sessB_st {s : Sess} (h : inB 0 s.st 2 = false) : sessB s = false := by unfold sessB; rw [h]; rfl
theorem sessB_set {s : Sess} (h : pairsB s.set 6 9 = false) : sessB s = false := by unfold sessB; rw [h]; simp
theorem sessB_prep {s : Sess} (h : pairsB s.prep 6 11 = false) : sessB s = false := by unfold sessB; rw [h]; simp
theorem sessB_sav {s : Sess} (h : pairsB s.sav 6 9 = false) : sessB s = false := by unfold sessB; rw [h]; simp
theorem sessB_wr {s : Sess} (h : pairsB s.wr 100 10 = false) : sessB s = false := by unfold sessB; rw [h]; simp
theorem sessB_idle {s : Sess} (h1 : s.st = 0) (h2 : 0 < s.sav.length) : sessB s = false := by
 have e1 : (s.st == 0) = true := beq_iff_eq.2 h1
 unfold sessB; rw [e1, decide_eq_true h2]; simp
theorem sessB_tx {s : Sess} (h1 : s.st ≠ 1) (h2 : 0 < s.wr.length) : sessB s = false := by
 have e1 : (s.st != 1) = true := bne_iff_ne.2 h1
 unfold sessB; rw [e1, decide_eq_true h2]; simp
theorem sessB_ok {s : Sess} (h0 : inB 0 s.st 2 = true) (h1 : pairsB s.set 6 9 = true) (h2 : pairsB s.prep 6 11 = true) (h3 : pairsB s.sav 6 9 = true) (h4 : pairsB s.wr 100 10 = true) (h5 : ¬ (s.st = 0 ∧ 0 < s.sav.length)) (h6 : ¬ (s.st ≠ 1 ∧ 0 < s.wr.length)) : sessB s = true := by
 unfold sessB
 rw [h0, h1, h2, h3, h4]
 simp only [Bool.true_and, Bool.and_eq_true, Bool.not_eq_true', Bool.and_eq_false_iff, beq_eq_false_iff_ne, bne_eq_false_iff_eq, decide_eq_false_iff_not]
 refine ⟨?_, ?_⟩
 ·by_cases e : s.st = 0
  ·exact .inr (fun h => h5 ⟨e, h⟩)
  ·exact .inl e
 ·by_cases e : s.st = 1
  ·exact .inl e
  ·exact .inr (fun h => h6 ⟨e, h⟩)
structure SessOk (s : Sess) : Prop where
 lo : 0 ≤ s.st
 hi : s.st ≤ 2
 set : pairsB s.set 6 9 = true
 prep : pairsB s.prep 6 11 = true
 sav : pairsB s.sav 6 9 = true
 wr : pairsB s.wr 100 10 = true
 idle : s.st = 0 → s.sav = []
 tx : s.st ≠ 1 → s.wr = []
theorem sessB_iff {s : Sess} : sessB s = true ↔ SessOk s := by
 constructor
 ·intro h
  have h0 : inB 0 s.st 2 = true := by cases e : inB 0 s.st 2 with | true => rfl | false => rw [sessB_st e] at h; cases h
  have h1 : pairsB s.set 6 9 = true := by cases e : pairsB s.set 6 9 with | true => rfl | false => rw [sessB_set e] at h; cases h
  have h2 : pairsB s.prep 6 11 = true := by cases e : pairsB s.prep 6 11 with | true => rfl | false => rw [sessB_prep e] at h; cases h
  have h3 : pairsB s.sav 6 9 = true := by cases e : pairsB s.sav 6 9 with | true => rfl | false => rw [sessB_sav e] at h; cases h
  have h4 : pairsB s.wr 100 10 = true := by cases e : pairsB s.wr 100 10 with | true => rfl | false => rw [sessB_wr e] at h; cases h
  have hi : 0 ≤ s.st ∧ s.st ≤ 2 := by
   unfold inB at h0; simpa using h0
  refine ⟨hi.1, hi.2, h1, h2, h3, h4, fun e => ?_, fun e => ?_⟩
  ·by_cases hl : 0 < s.sav.length
   ·rw [sessB_idle e hl] at h; cases h
   ·exact List.length_eq_zero_iff.1 (by omega)
  ·by_cases hl : 0 < s.wr.length
   ·rw [sessB_tx e hl] at h; cases h
   ·exact List.length_eq_zero_iff.1 (by omega)
 ·intro h
  refine sessB_ok (inB_yes ⟨h.lo, h.hi⟩) h.set h.prep h.sav h.wr (fun e => ?_) (fun e => ?_)
  ·rw [h.idle e.1] at e; simp at e
  ·rw [h.tx e.1] at e; simp at e
theorem plusGo_len : ∀ (l : PL) (k v : ByteArray) (d : Bool), (plusGo k v d l).length ≤ l.length + (!d).toNat
 | [], k, v, d => by cases d <;> simp [plusGo]
 | p :: l, k, v, d => by
  have ih := plusGo_len l k v (d || !ltB p.1 k)
  unfold plusGo
  cases d <;> cases h1 : ltB p.1 k <;> cases h2 : eqB p.1 k <;> simp [h1] at ih ⊢ <;> omega
theorem plusL_len (l : PL) (k v : ByteArray) : (plusL l k v).length ≤ l.length + 1 := plusGo_len l k v false
theorem plusGo_mem : ∀ {l : PL} {k v : ByteArray} {d : Bool} {q : ByteArray × ByteArray}, q ∈ plusGo k v d l → q = (k, v) ∨ q ∈ l
 | [], k, v, d, q, h => by cases d <;> simp [plusGo] at h ⊢; exact h
 | p :: l, k, v, d, q, h => by
  unfold plusGo at h
  rw [List.mem_append, List.mem_append] at h
  rcases h with h | h | h
  ·split at h
   ·exact .inl (by simpa using h)
   ·cases h
  ·split at h
   ·cases h
   ·exact .inr (by simp at h; simp [h])
  ·rcases plusGo_mem h with h | h
   ·exact .inl h
   ·exact .inr (by simp [h])
theorem plusL_mem {l : PL} {k v : ByteArray} {q : ByteArray × ByteArray} (h : q ∈ plusL l k v) : q = (k, v) ∨ q ∈ l := plusGo_mem h
theorem worldB_rows {W : Wd} (h : pairsB W.rows 100 10 = false) : worldB W = false := by unfold worldB; rw [h]; rfl
theorem worldB_many {W : Wd} (h : ¬ W.ss.length ≤ 8) : worldB W = false := by unfold worldB; rw [decide_eq_false h]; simp
theorem worldB_sess {W : Wd} {i : Nat} (hi : i < W.ss.length) (h : sessB W.ss[i] = false) : worldB W = false := by
 have : W.ss.all sessB = false := by
  rw [List.all_eq_false]; exact ⟨W.ss[i], List.getElem_mem hi, by simp [h]⟩
 unfold worldB; rw [this]; simp
theorem worldB_last {W : Wd} (h1 : pairsB W.rows 100 10 = true) (h2 : W.ss.length ≤ 8) (h3 : ∀ i (hi : i < W.ss.length), sessB W.ss[i] = true) (h4 : ∀ i (hi : i < W.ss.length), ∀ p ∈ W.ss[i].wr, heldB W.ss i p.1 = false) : worldB W = decide ((allL W).length ≤ 100) := by
 have : W.ss.all sessB = true := by
  rw [List.all_eq_true]; intro s hs
  obtain ⟨i, hi, rfl⟩ := List.getElem_of_mem hs
  exact h3 i hi
 unfold worldB; rw [h1, decide_eq_true h2, this, apartB_iff.2 h4]; rfl
structure WorldOk (W : Wd) : Prop where
 rows : pairsB W.rows 100 10 = true
 many : W.ss.length ≤ 8
 sess : ∀ i (hi : i < W.ss.length), SessOk W.ss[i]
 apart : ∀ i (hi : i < W.ss.length), ∀ p ∈ W.ss[i].wr, heldB W.ss i p.1 = false
 all : (allL W).length ≤ 100
theorem worldB_iff {W : Wd} : worldB W = true ↔ WorldOk W := by
 constructor
 ·intro h
  have h' := h
  unfold worldB at h'
  simp only [Bool.and_eq_true, decide_eq_true_eq] at h'
  obtain ⟨⟨h1, h2⟩, h3, h4, h5⟩ := h'
  exact ⟨h1, h2, fun i hi => sessB_iff.1 (List.all_eq_true.1 h3 _ (List.getElem_mem hi)), apartB_iff.1 h4, h5⟩
 ·intro h
  rw [worldB_last h.rows h.many (fun i hi => sessB_iff.2 (h.sess i hi)) h.apart, decide_eq_true h.all]
end Go.Proofs.YtpbaobmegomfpabGreatDoor
namespace Go.Proofs.YtpbaobmegomfpabGreatDoor
open Go.RowKit Go.Maps
def kl (s : ByteArray) : Lit := .string s.data.toList
theorem kl_ne {a b : ByteArray} (h : a ≠ b) : kl a ≠ kl b := fun e => h (by
 unfold kl at e
 injection e with e
 exact ba_ext e)
def cntL (l : PL) (key : ByteArray) : Nat := (l.filter fun p => eqB p.1 key).length
theorem cntL_cons (p : ByteArray × ByteArray) (l : PL) (key : ByteArray) : cntL (p :: l) key = (if eqB p.1 key then 1 else 0) + cntL l key := by
 unfold cntL
 rw [List.filter_cons]
 split
 ·rw [List.length_cons]; omega
 ·omega
theorem cntL_append (l m : PL) (key : ByteArray) : cntL (l ++ m) key = cntL l key + cntL m key := by unfold cntL; rw [List.filter_append, List.length_append]
theorem cntL_nil (key : ByteArray) : cntL [] key = 0 := rfl
structure MapOk (D : DataW Unit) (R : PL) (cnt : ByteArray → Nat) : Prop where
 size : Maps.size D = R.length
 has : ∀ key, Maps.has D (kl key) = (atL R key).isSome
 at_ : ∀ key, D.atKey (kl key) (.lit (.int .i64 0)) = .lit (.int .i64 (cnt key))
theorem mapOk_empty : MapOk (.map []) [] (fun _ => 0) := ⟨rfl, fun _ => rfl, fun _ => rfl⟩
theorem mapOk_put {D : DataW Unit} {R : PL} {cnt : ByteArray → Nat} {k v : ByteArray} {c : Nat} (h : MapOk D R cnt) (ht : Tidy D) (hr : risingB R = true) (hk : WideAt.IsKeyLit (kl k)) :
  MapOk (D.put (kl k) (.lit (.int .i64 c))) (insL R k v) (fun key => if eqB k key then c else cnt key) := by
 refine ⟨?_, fun key => ?_, fun key => ?_⟩
 ·rw [size_put ht, h.has, ins_length hr, h.size]
 ·rw [at_ins hr]
  cases e : eqB k key
  ·rw [has_put_other (fun e' => kl_ne (eqB_false.1 e) e'.symm), h.has]; rfl
  ·rw [← eqB_iff.1 e, has_put_same ht.isMap hk]; rfl
 ·cases e : eqB k key
  ·rw [atKey_put_other (fun e' => kl_ne (eqB_false.1 e) e'.symm), h.at_]; rfl
  ·rw [← eqB_iff.1 e, atKey_put_same ht.isMap hk]; rfl
theorem MapOk.cnt {D : DataW Unit} {R : PL} {cnt cnt' : ByteArray → Nat} (h : MapOk D R cnt) (e : ∀ key, cnt key = cnt' key) : MapOk D R cnt' := ⟨h.size, h.has, fun key => by rw [h.at_, e]⟩
theorem ins_last {l : PL} {k v : ByteArray} (h : ∀ q ∈ l, ltB q.1 k = true) : insL l k v = l ++ [(k, v)] := by
 induction l with
 | nil => rfl
 | cons p l ih => rw [insL_lt (h p (by simp)), ih (fun q hq => h q (by simp [hq]))]; rfl
theorem ins_take {l : PL} (h : risingB l = true) {k : Nat} (hk : k < l.length) : insL (l.take k) l[k].1 l[k].2 = l.take (k + 1) := by
 rw [ins_last, List.take_succ_eq_append_getElem hk]
 intro q hq
 obtain ⟨j, hj, rfl⟩ := List.getElem_of_mem hq
 simp only [List.length_take] at hj
 rw [List.getElem_take]
 exact rising_lt h j k (by omega) hk
theorem rising_take {l : PL} (h : risingB l = true) (k : Nat) : risingB (l.take k) = true := by
 rw [risingB_iff] at h ⊢
 intro j hj
 simp only [List.length_take] at hj
 rw [List.getElem_take, List.getElem_take]
 exact h j (by omega)
end Go.Proofs.YtpbaobmegomfpabGreatDoor
namespace Go.Proofs.YtpbaobmegomfpabGreatDoor
open Go.RowKit
theorem cntL_rising : ∀ {l : PL} {key : ByteArray}, risingB l = true → cntL l key = if (atL l key).isSome then 1 else 0
 | [], _, _ => rfl
 | p :: l, key, h => by
  rw [cntL_cons, cntL_rising (rising_tail h)]
  cases e : eqB p.1 key
  ·rw [atL_no e]; simp
  ·have : atL l key = none := atL_none (fun q hq => eqB_false.2 (fun e' => ltB_ne (rising_head h q hq) (by rw [eqB_iff.1 e, e'])))
   rw [atL_yes e, this]; rfl
theorem cnt_flat_cons (s : Sess) (ss : List Sess) (key : ByteArray) : cntL ((s :: ss).flatMap (·.wr)) key = cntL s.wr key + cntL (ss.flatMap (·.wr)) key := by
 rw [List.flatMap_cons, cntL_append]
theorem cnt_one : ∀ {ss : List Sess} {key : ByteArray} {i : Nat} (hi : i < ss.length), cntL ss[i].wr key ≤ cntL (ss.flatMap (·.wr)) key
 | s :: ss, key, 0, _ => by rw [cnt_flat_cons]; simp
 | s :: ss, key, i + 1, hi => by
  have := cnt_one (key := key) (ss := ss) (i := i) (by simpa using hi)
  rw [cnt_flat_cons]; simp only [gCS]; omega
theorem cnt_two : ∀ {ss : List Sess} {key : ByteArray} {i j : Nat} (hi : i < j) (hj : j < ss.length), cntL (ss[i]'(by omega)).wr key + cntL ss[j].wr key ≤ cntL (ss.flatMap (·.wr)) key
 | s :: ss, key, 0, j + 1, _, hj => by
  have := cnt_one (key := key) (ss := ss) (i := j) (by simpa using hj)
  rw [cnt_flat_cons]; simp only [gCS, gCZ]; omega
 | s :: ss, key, i + 1, j + 1, hi, hj => by
  have := cnt_two (key := key) (ss := ss) (i := i) (j := j) (by omega) (by simpa using hj)
  rw [cnt_flat_cons]; simp only [gCS]; omega
theorem cnt_pos : ∀ {ss : List Sess} {key : ByteArray}, 1 ≤ cntL (ss.flatMap (·.wr)) key → ∃ i, ∃ hi : i < ss.length, 1 ≤ cntL ss[i].wr key
 | [], key, h => by simp [cntL] at h
 | s :: ss, key, h => by
  rw [cnt_flat_cons] at h
  by_cases h0 : 1 ≤ cntL s.wr key
  ·exact ⟨0, by simp, h0⟩
  ·obtain ⟨i, hi, h1⟩ := cnt_pos (ss := ss) (key := key) (by omega)
   exact ⟨i + 1, by simpa using hi, h1⟩
theorem cnt_more : ∀ {ss : List Sess} {key : ByteArray}, (∀ i (hi : i < ss.length), cntL ss[i].wr key ≤ 1) → 2 ≤ cntL (ss.flatMap (·.wr)) key → ∃ i j, ∃ (hi : i < ss.length) (hj : j < ss.length), i ≠ j ∧ 1 ≤ cntL ss[i].wr key ∧ 1 ≤ cntL ss[j].wr key
 | [], key, _, h => by simp [cntL] at h
 | s :: ss, key, h1, h => by
  rw [cnt_flat_cons] at h
  have h0 := h1 0 (by simp)
  simp only [gCZ] at h0
  by_cases hs : 1 ≤ cntL s.wr key
  ·obtain ⟨j, hj, h2⟩ := cnt_pos (ss := ss) (key := key) (by omega)
   exact ⟨0, j + 1, by simp, by simpa using hj, by omega, hs, h2⟩
  ·obtain ⟨i, j, hi, hj, hne, h2, h3⟩ := cnt_more (ss := ss) (key := key) (fun i hi => h1 (i + 1) (by simpa using hi)) (by omega)
   exact ⟨i + 1, j + 1, by simpa using hi, by simpa using hj, by omega, h2, h3⟩
def cntOk (W : Wd) : Bool := (W.ss.flatMap (·.wr)).all fun p => decide (cntL (W.ss.flatMap (·.wr)) p.1 ≤ 1)
theorem cntOk_no {W : Wd} {key : ByteArray} (h : 1 < cntL (W.ss.flatMap (·.wr)) key) : cntOk W = false := by
 unfold cntOk
 rw [List.all_eq_false]
 have : ∃ p ∈ W.ss.flatMap (·.wr), eqB p.1 key = true := by
  have h' : 0 < ((W.ss.flatMap (·.wr)).filter fun p => eqB p.1 key).length := by unfold cntL at h; omega
  obtain ⟨p, hp⟩ := List.exists_mem_of_length_pos h'
  rw [List.mem_filter] at hp
  exact ⟨p, hp.1, hp.2⟩
 obtain ⟨p, hp, he⟩ := this
 refine ⟨p, hp, ?_⟩
 rw [eqB_iff.1 he]
 simp; omega
theorem cntOk_yes {W : Wd} (h : ∀ key, cntL (W.ss.flatMap (·.wr)) key ≤ 1) : cntOk W = true := by
 unfold cntOk
 rw [List.all_eq_true]
 intro p _
 exact decide_eq_true (h p.1)
theorem some_cnt {l : PL} {key : ByteArray} (hr : risingB l = true) : 1 ≤ cntL l key ↔ (atL l key).isSome = true := by
 rw [cntL_rising hr]
 cases (atL l key).isSome <;> simp
theorem cnt_rising_le {l : PL} {key : ByteArray} (hr : risingB l = true) : cntL l key ≤ 1 := by rw [cntL_rising hr]; split <;> omega
theorem cntOk_apart {W : Wd} (hr : ∀ i (hi : i < W.ss.length), risingB W.ss[i].wr = true) : cntOk W = apartB W.ss := by
 cases h : apartB W.ss
 ·-- two sessions
  have : ¬ ∀ i (hi : i < W.ss.length), ∀ p ∈ W.ss[i].wr, heldB W.ss i p.1 = false := fun hn => by rw [apartB_iff.2 hn] at h; cases h
  apply Classical.byContradiction
  intro hc
  have hc : cntOk W = true := by cases e : cntOk W with | true => rfl | false => exact absurd e hc
  apply this
  intro i hi p hp
  cases e : heldB W.ss i p.1
  ·rfl
  ·obtain ⟨k, hk, hs, hne⟩ := heldB_iff.1 e
   have h1 := (some_cnt (hr k hk)).2 hs
   have h2 := (some_cnt (hr i hi)).2 (atL_of_mem hp)
   have h3 : 2 ≤ cntL (W.ss.flatMap (·.wr)) p.1 := by
    rcases Nat.lt_or_gt_of_ne (show k ≠ i by omega) with hlt | hlt
    ·have := cnt_two (key := p.1) hlt hi; omega
    ·have := cnt_two (key := p.1) hlt hk; omega
   rw [cntOk_no (key := p.1) (by omega)] at hc; cases hc
 ·have ha := apartB_iff.1 h
  refine cntOk_yes fun key => ?_
  apply Classical.byContradiction
  intro hc
  obtain ⟨i, j, hi, hj, hne, h1, h2⟩ := cnt_more (key := key) (fun i hi => cnt_rising_le (hr i hi)) (show 2 ≤ cntL (W.ss.flatMap (·.wr)) key by omega)
  have s1 := (some_cnt (hr i hi)).1 h1
  have s2 := (some_cnt (hr j hj)).1 h2
  obtain ⟨v, hv⟩ := Option.isSome_iff_exists.1 s1
  have := ha i hi _ (atL_mem hv)
  rw [heldB_yes hj s2 (by omega)] at this
  cases this
end Go.Proofs.YtpbaobmegomfpabGreatDoor
namespace Go.Proofs.YtpbaobmegomfpabGreatDoor
open Go.RowKit
theorem blank_app {l r : List UInt8} (h : ∀ c ∈ l, c ≠ 32) : blank (l ++ 32 :: r) = l.length := by
 induction l with
 | nil => rfl
 | cons c l ih =>
  have h1 := h c (by simp)
  rw [List.cons_append, blank, if_neg (by simpa using h1), ih (fun d hd => h d (by simp [hd]))]
  rfl
theorem blank_none {l : List UInt8} (h : ∀ c ∈ l, c ≠ 32) : blank l = l.length := by
 induction l with
 | nil => rfl
 | cons c l ih =>
  have h1 := h c (by simp)
  rw [blank, if_neg (by simpa using h1), ih (fun d hd => h d (by simp [hd]))]
  rfl
theorem blank_split (l : List UInt8) (h : blank l < l.length) : l = l.take (blank l) ++ 32 :: l.drop (blank l + 1) := by
 induction l with
 | nil => simp at h
 | cons c l ih =>
  by_cases hc : (c == 32) = true
  ·have e : blank (c :: l) = 0 := by rw [blank, if_pos hc]
   rw [e]
   have : c = 32 := by simpa using hc
   simp [this]
  ·have e : blank (c :: l) = blank l + 1 := by rw [blank, if_neg hc]
   rw [e] at h ⊢
   have h2 := ih (by simpa using h)
   simp only [List.take_succ_cons, List.drop_succ_cons, List.cons_append]
   rw [← h2]
theorem cutA_list (s : ByteArray) : (cutA s).data.toList = s.data.toList.take (cutI s) := by
 unfold cutA; rw [Lib.extract_data]; simp
theorem cutB_list (s : ByteArray) : (cutB s).data.toList = s.data.toList.drop (cutI s + 1) := by
 unfold cutB; rw [Lib.extract_data, List.take_of_length_le]; simp
theorem cut_of {s : ByteArray} {l r : List UInt8} (hs : s.data.toList = l ++ 32 :: r) (h : ∀ c ∈ l, c ≠ 32) :
  cutI s = l.length ∧ (cutA s).data.toList = l ∧ (cutB s).data.toList = r ∧ cutF s = true := by
 have e : cutI s = l.length := by unfold cutI; rw [hs, blank_app h]
 have hz : s.size = s.data.toList.length := by simp
 refine ⟨e, ?_, ?_, ?_⟩
 ·rw [cutA_list, e, hs, List.take_left' rfl]
 ·rw [cutB_list, e, hs, List.drop_append]; simp
 ·unfold cutF; rw [e, hz, hs]; simp
theorem cut_not {s : ByteArray} (h : ∀ c ∈ s.data.toList, c ≠ 32) : cutI s = s.size ∧ cutA s = s ∧ cutB s = ⟨#[]⟩ ∧ cutF s = false := by
 have e : cutI s = s.size := by unfold cutI; rw [blank_none h]; simp
 exact ⟨e, cutA_all e, cutB_none e, by unfold cutF; rw [e]; simp⟩
theorem cut_join {s : ByteArray} (h : cutF s = true) : s.data.toList = (cutA s).data.toList ++ 32 :: (cutB s).data.toList := by
 unfold cutF at h
 simp only [decide_eq_true_eq] at h
 rw [cutA_list, cutB_list]
 exact blank_split s.data.toList (by simpa [cutI] using h)
theorem cut_whole {s : ByteArray} (h : cutF s = false) : cutA s = s ∧ cutB s = ⟨#[]⟩ := by
 unfold cutF at h
 simp only [decide_eq_false_iff_not] at h
 have e : cutI s = s.size := by have := cutI_le s; omega
 exact ⟨cutA_all e, cutB_none e⟩
theorem wordL_clean : ∀ k, k ≤ 11 → ∀ c ∈ wordL k, c ≠ 32 := by decide
theorem bndB_clean {lo hi lim : Nat} {s : ByteArray} (h : bndB lo hi lim s = true) (hlo : 32 < lo) : ∀ c ∈ s.data.toList, c ≠ 32 := by
 unfold bndB at h
 simp only [Bool.and_eq_true, decide_eq_true_eq, List.all_eq_true] at h
 intro c hc e
 have := h.2 c hc
 subst e
 have h32 : (32 : UInt8).toNat = 32 := rfl
 omega
theorem prepB_38 {v : ByteArray} (h : prepB v = true) : v.size ≤ 38 := by
 unfold prepB at h
 simp only [Bool.and_eq_true, decide_eq_true_eq] at h
 have a1 := cut_total v
 have a2 := cut_total (cutB v)
 have a3 := kind_size (t := v) (by omega)
 have a4 := bndB_size h.2.2.1
 have a5 := plainV_size h.2.2.2
 omega
theorem good_more {k : Int} {key v : ByteArray} (h : checkE k key v = 0) : v.size ≤ 38 ∧ ∀ c ∈ key.data.toList, c ≠ 32 := by
 by_cases hk : k < 1 ∨ 11 < k
 ·rw [checkE_kind hk] at h; cases h
 ·cases h1 : keyB k key
  ·rw [checkE_key hk h1] at h; cases h
  ·cases h2 : valueB k v
   ·rw [checkE_value hk h2] at h; cases h
   ·constructor
    ·unfold valueB at h2
     split at h2
     ·exact prepB_38 h2
     ·have := plainV_size h2; omega
    ·by_cases h6 : 6 ≤ k ∧ k ≤ 11
     ·rw [keyB_yes h6] at h1
      exact bndB_clean h1 (by omega)
     ·rw [keyB_no h6] at h1
      have := isEmpty_size h1
      intro c hc
      have e : key.data.toList.length = 0 := by simpa using this
      rw [List.length_eq_zero_iff.1 e] at hc
      cases hc
theorem size_list (s : ByteArray) : s.size = s.data.toList.length := by simp
theorem text_list_12 (k : Nat) (key v : ByteArray) : ((wordAt k ++ (⟨#[32]⟩ ++ key)) ++ (⟨#[32]⟩ ++ v)).data.toList = wordL k ++ 32 :: (key.data.toList ++ 32 :: v.data.toList) := by
 simp [ByteArray.data_append, wordAt]
theorem text_list_9 (k : Nat) (key : ByteArray) : (wordAt k ++ (⟨#[32]⟩ ++ key)).data.toList = wordL k ++ 32 :: key.data.toList := by
 simp [ByteArray.data_append, wordAt]
theorem kindN_at {k : Nat} (h1 : 1 ≤ k) (h2 : k ≤ 11) {s : ByteArray} (h : s.data.toList = wordL k) : kindN s = k := kindN_hit h1 h2 h.symm
theorem empty_eq {s : ByteArray} (h : s.toList.isEmpty = true) : s = ⟨#[]⟩ := by
 rw [Lib.toList_data, List.isEmpty_iff] at h
 exact ba_ext (by rw [h])
theorem read_text {k : Nat} {key v : ByteArray} (h : checkE k key v = 0) :
  kindN (cutA (textOf k key v)) = k ∧ cutA (cutB (textOf k key v)) = key ∧ cutB (cutB (textOf k key v)) = v ∧ readE (textOf k key v) = 0 := by
 obtain ⟨g1, g2, g3, g4, g5, g6⟩ := good_of h
 obtain ⟨g7, g8⟩ := good_more h
 have hw := wordL_len k (by omega)
 have hwc := wordL_clean k (by omega)
 by_cases h6 : k < 6
 ·rw [decide_eq_true (by omega)] at g5 g6
  have e1 := empty_eq g5
  have e2 := empty_eq g6
  subst e1 e2
  rw [textOf_6 h6]
  obtain ⟨c1, c2, c3, c4⟩ := cut_not (s := wordAt k) (by rw [wordAt_toList]; exact hwc)
  have hk : kindN (cutA (wordAt k)) = k := by rw [c2]; exact kindN_at (by omega) (by omega) (wordAt_toList k)
  have hp := cutF_parts c4
  have hE := splitE_zero (t := wordAt k) (by omega) (splitBad_none c4)
  refine ⟨hk, hp.1, hp.2, ?_⟩
  rw [readE_check (by have := size_list (wordAt k); rw [wordAt_toList] at this; omega) hE, hk, hp.1, hp.2]
  exact h
 ·by_cases h9 : k < 9
  ·rw [decide_eq_true (by omega)] at g6
   rw [decide_eq_false (by omega)] at g5
   have e2 := empty_eq g6
   subst e2
   rw [textOf_9 h6 h9]
   have hl := text_list_9 k key
   generalize hT : wordAt k ++ (⟨#[32]⟩ ++ key) = T at hl ⊢
   obtain ⟨c1, c2, c3, c4⟩ := cut_of hl hwc
   have hk : kindN (cutA T) = k := kindN_at (by omega) (by omega) c2
   have hB : cutB T = key := ba_ext c3
   obtain ⟨d1, d2, d3, d4⟩ := cut_not g8
   rw [hB, d2, d3]
   have hE := splitE_zero (t := T) (by omega) (by unfold splitBad; rw [hB, d2, d3, c4, d4, g5]; rfl)
   refine ⟨hk, rfl, rfl, ?_⟩
   have hz := size_list T
   rw [hl] at hz
   have hzk := size_list key
   rw [readE_check (by simp at hz; omega) hE, hk, hB, d2, d3]
   exact h
  ·rw [decide_eq_false (by omega)] at g5 g6
   rw [textOf_12 h9]
   have hl := text_list_12 k key v
   generalize hT : (wordAt k ++ (⟨#[32]⟩ ++ key)) ++ (⟨#[32]⟩ ++ v) = T at hl ⊢
   obtain ⟨c1, c2, c3, c4⟩ := cut_of hl hwc
   have hk : kindN (cutA T) = k := kindN_at (by omega) (by omega) c2
   obtain ⟨d1, d2, d3, d4⟩ := cut_of c3 g8
   have hA : cutA (cutB T) = key := ba_ext d2
   have hB : cutB (cutB T) = v := ba_ext d3
   rw [hA, hB]
   have hE := splitE_zero (t := T) (by omega) (by unfold splitBad; rw [hA, hB, c4, d4, g5, g6]; rfl)
   refine ⟨hk, rfl, rfl, ?_⟩
   have hz := size_list T
   rw [hl] at hz
   have hzk := size_list key
   have hzv := size_list v
   rw [readE_check (by simp at hz; omega) hE, hk, hA, hB]
   exact h
theorem text_read {s : ByteArray} (h : readE s = 0) : checkE (kindN (cutA s)) (cutA (cutB s)) (cutB (cutB s)) = 0 ∧ textOf (kindN (cutA s)) (cutA (cutB s)) (cutB (cutB s)) = s := by
 have hl : ¬ 60 < s.size := fun hl => by rw [readE_long hl] at h; cases h
 have hsp : splitE s = 0 := Classical.byContradiction fun hs => by rw [readE_split hl hs] at h; exact hs h
 have hc := readE_check hl hsp
 rw [h] at hc
 refine ⟨hc.symm, ?_⟩
 obtain ⟨g1, g2, g3, g4, g5, g6⟩ := good_of hc.symm
 obtain ⟨h0, hb⟩ := splitE_ok hsp
 have hw := kindN_word (s := cutA s) (by omega)
 have hwA : (wordAt (kindN (cutA s))).data.toList = (cutA s).data.toList := by rw [wordAt_toList, hw]
 unfold splitBad at hb
 cases f1 : cutF s
 ·have hp := cutF_parts f1
  rw [hp.1] at g5
  have h6 : kindN (cutA s) < 6 := by
   rw [empty_of rfl] at g5
   have := of_decide_eq_true g5.symm
   omega
  rw [textOf_6 h6]
  apply ba_ext
  rw [hwA, (cut_whole f1).1]
 ·rw [f1] at hb
  have hk : (cutA (cutB s)).toList.isEmpty = false := by
   cases e : (cutA (cutB s)).toList.isEmpty
   ·rfl
   ·rw [e] at hb; simp at hb
  rw [hk] at g5
  have h6 : ¬ kindN (cutA s) < 6 := by
   have := of_decide_eq_false g5.symm
   omega
  have hj := cut_join f1
  cases f2 : cutF (cutB s)
  ·have hw2 := cut_whole f2
   rw [hw2.2] at g6
   have h9 : kindN (cutA s) < 9 := by
    rw [empty_of rfl] at g6
    have := of_decide_eq_true g6.symm
    omega
   rw [textOf_9 h6 h9]
   apply ba_ext
   rw [text_list_9, hw, hw2.1]
   exact hj.symm
  ·rw [f2, hk] at hb
   have hv : (cutB (cutB s)).toList.isEmpty = false := by
    cases e : (cutB (cutB s)).toList.isEmpty
    ·rfl
    ·rw [e] at hb; simp at hb
   rw [hv] at g6
   have h9 : ¬ kindN (cutA s) < 9 := by
    have := of_decide_eq_false g6.symm
    omega
   rw [textOf_12 h9]
   apply ba_ext
   rw [text_list_12, hw, ← cut_join f2]
   exact hj.symm
end Go.Proofs.YtpbaobmegomfpabGreatDoor
namespace Go.Proofs.YtpbaobmegomfpabGreatDoor
open Go.RowKit
def tFailed : ByteArray := ⟨#[102, 97, 105, 108, 101, 100, 32, 97, 108, 114, 101, 97, 100, 121]⟩
def tBegun : ByteArray := ⟨#[98, 101, 103, 117, 110, 32, 97, 108, 114, 101, 97, 100, 121]⟩
def tNoTx : ByteArray := ⟨#[110, 111, 32, 116, 114, 97, 110, 115, 97, 99, 116, 105, 111, 110]⟩
def tNotIn : ByteArray := ⟨#[110, 111, 116, 32, 105, 110, 32, 97, 32, 116, 114, 97, 110, 115, 97, 99, 116, 105, 111, 110]⟩
def tAsked : ByteArray := ⟨#[97, 115, 32, 97, 115, 107, 101, 100]⟩
def tNotPrep : ByteArray := ⟨#[110, 111, 116, 32, 112, 114, 101, 112, 97, 114, 101, 100]⟩
def tFull : ByteArray := ⟨#[102, 117, 108, 108]⟩
def tHeld : ByteArray := ⟨#[104, 101, 108, 100]⟩
structure Ans where
 kind : Int
 text : ByteArray
def no' (t : ByteArray) : Ans := ⟨4, t⟩
def ok' : Ans := ⟨1, ⟨#[]⟩⟩
def fnd' (o : Option ByteArray) : Ans := match o with
 | some v => ⟨2, v⟩
 | none => ⟨3, ⟨#[]⟩⟩
def Wd.at (W : Wd) (i : Nat) : Sess := W.ss.getD i ⟨0, [], [], [], []⟩
def Wd.put (W : Wd) (i : Nat) (s : Sess) : Wd := ⟨W.rows, W.ss.set i s⟩
def plusF (rows l : PL) : PL := l.foldl (fun a p => plusL a p.1 p.2) rows
def did1 (W : Wd) (i : Nat) (k : Int) (key val : ByteArray) : Wd × Ans :=
 let s := W.at i
 if s.st = 2 ∧ ¬ (k = 2 ∨ k = 3) then (W, no' tFailed)
 else if k = 1 then (if s.st = 0 then (W.put i { s with st := 1, sav := s.set }, ok') else (W, no' tBegun))
 else if k = 2 ∨ k = 3 then
  (if s.st = 0 then (W, no' tNoTx)
  else if k = 2 ∧ s.st = 1 then (⟨plusF W.rows s.wr, W.ss.set i { s with st := 0, sav := [], wr := [] }⟩, ok')
  else (W.put i { s with st := 0, set := s.sav, sav := [], wr := [] }, ok'))
 else if k = 4 then (if s.st = 0 then (W.put i { s with set := [], prep := [] }, ok') else (W, no' tNotIn))
 else if k = 6 then (W, fnd' (atL s.set key))
 else if k = 7 then (W, fnd' (match atL s.wr key with | some v => some v | none => atL W.rows key))
 else if k = 9 then (if fndL s.set key = false ∧ 6 ≤ s.set.length then (W, no' tFull) else (W.put i { s with set := plusL s.set key val }, ok'))
 else if k = 10 then
  (if heldB W.ss i key = true then (W, no' tHeld)
  else if fndL (allL W) key = false ∧ 100 ≤ (allL W).length then (W, no' tFull)
  else if s.st = 1 then (W.put i { s with wr := plusL s.wr key val }, ok')
  else (⟨plusL W.rows key val, W.ss⟩, ok'))
 else if k = 11 then (if fndL s.prep key = false ∧ 6 ≤ s.prep.length then (W, no' tFull) else (W.put i { s with prep := plusL s.prep key val }, ok'))
 else (W, no' tAsked)
def didM (W : Wd) (i : Nat) (k : Int) (key val : ByteArray) : Wd × Ans :=
 if k = 8 then
  (if (W.at i).st = 2 then (W, no' tFailed)
  else match atL (W.at i).prep key with
   | none => (W, no' tNotPrep)
   | some t => did1 W i (kindN (cutA t)) (cutA (cutB t)) (cutB (cutB t)))
 else did1 W i k key val
def doM (W : Wd) (i : Nat) (k : Int) (key val : ByteArray) : Wd × Ans :=
 let r := didM W i k key val
 if r.2.kind = 4 ∧ (r.1.at i).st = 1 then (r.1.put i { r.1.at i with st := 2, wr := [] }, r.2) else r
def doE (W : Wd) (i : Int) (k : Int) (key val : ByteArray) : Int :=
 if worldB W = false then 5 else if i < 0 ∨ (W.ss.length : Int) ≤ i then 6 else checkE k key val
def Sz60 (l : PL) : Prop := l.length ≤ 100 ∧ ∀ p ∈ l, p.1.size ≤ 8 ∧ p.2.size ≤ 60
theorem pairsB_sz {l : PL} {most : Nat} {kind : Int} (hm : most ≤ 100) (h : pairsB l most kind = true) : Sz60 l := by
 obtain ⟨_, h2, h3⟩ := pairsB_rising h
 refine ⟨by omega, fun p hp => ?_⟩
 have hg := good_of (h3 p hp)
 exact ⟨hg.key8, hg.v60⟩
end Go.Proofs.YtpbaobmegomfpabGreatDoor
namespace Go.Proofs.YtpbaobmegomfpabGreatDoor
open Go.RowKit
def slc (g n c : Nat) : Value := .slice (some ⟨g, 0, none⟩) n c
structure SzW (W : Wd) : Prop where
 rows : Sz60 W.rows
 many : W.ss.length ≤ 8
 li : ∀ i j (h : i < W.ss.length), j < 4 → Sz60 (W.ss[i].li j)
theorem Sz60.sz {l : PL} (h : Sz60 l) : Sz l := fun p hp => ⟨by have := (h.2 p hp).1; omega, by have := (h.2 p hp).2; omega⟩
theorem worldOk_sz {W : Wd} (h : WorldOk W) : SzW W := by
 refine ⟨pairsB_sz (nL _) h.rows, h.many, fun i j hi hj => ?_⟩
 have s := h.sess i hi
 rcases j4 hj with rfl | rfl | rfl | rfl
 ·exact pairsB_sz (by omega) s.set
 ·exact pairsB_sz (by omega) s.prep
 ·exact pairsB_sz (by omega) s.sav
 ·exact pairsB_sz (by omega) s.wr
structure OwnD (w : World) (X S gR cR : Nat) (G C : Nat → Nat → Nat) (W : Wd) : Prop where
 box : RowTo w X 39 2 [slc gR W.rows.length cR, slc S W.ss.length W.ss.length]
 rows : OwnL w gR cR W.rows
 blk : RowTo w S 115 (W.ss.length * 5) []
 st : ∀ i (h : i < W.ss.length), w.cell? ⟨S, i * 5, none⟩ = some (.int .i64 W.ss[i].st)
 cs : ∀ i j (h : i < W.ss.length), j < 4 → w.cell? ⟨S, i * 5 + (j + 1), none⟩ = some (slc (G i j) (W.ss[i].li j).length (C i j))
 ls : ∀ i j (h : i < W.ss.length), j < 4 → OwnL w (G i j) (C i j) (W.ss[i].li j)
 neXS : X ≠ S
 neRX : gR ≠ X
 neRS : gR ≠ S
 neGX : ∀ i j, i < W.ss.length → j < 4 → G i j ≠ X
 neGS : ∀ i j, i < W.ss.length → j < 4 → G i j ≠ S
 neGR : ∀ i j, i < W.ss.length → j < 4 → G i j ≠ gR
 inj : ∀ i j i' j', i < W.ss.length → j < 4 → i' < W.ss.length → j' < 4 → G i j = G i' j' → i = i' ∧ j = j'
structure LoD (base X S gR : Nat) (G : Nat → Nat → Nat) (n : Nat) : Prop where
 x : base ≤ X
 s : base ≤ S
 r : base ≤ gR
 g : ∀ i j, i < n → j < 4 → base ≤ G i j
def LoV (lo : Nat) (v : Value) : Prop := ∀ a n c, v = .slice (some a) n c → lo ≤ a.block
theorem LoV.at {lo b o n c : Nat} (h : lo ≤ b) : LoV lo (.slice (some ⟨b, o, none⟩) n c) := fun a n' c' e => by injection e with e; injection e with e; subst e; exact h
theorem LoV.slc {lo g n c : Nat} (h : lo ≤ g) : LoV lo (slc g n c) := LoV.at h
theorem LoV.non (lo n c : Nat) : LoV lo (.slice none n c) := fun a n' c' e => by injection e with e; cases e
theorem LoD.v {base X S gR n : Nat} {G : Nat → Nat → Nat} (h : LoD base X S gR G n) {i j : Nat} (hi : i < n) (hj : j < 4) {m c : Nat} : LoV base (Go.Proofs.YtpbaobmegomfpabGreatDoor.slc (G i j) m c) := LoV.at (h.g i j hi hj)
structure EndW (w : World) (base X S : Nat) (W : Wd) : Prop where
 box : ∃ r, RowTo w X 39 2 [r, slc S W.ss.length W.ss.length] ∧ Wld w w.heap.size r (slc S W.ss.length W.ss.length) W ∧ LoV base r
 blk : RowTo w S 115 (W.ss.length * 5) []
 loX : base ≤ X
 loS : base ≤ S
 los : ∀ k j v, k < W.ss.length → j < 4 → w.cell? ⟨S, k * 5 + (j + 1), none⟩ = some v → LoV base v
theorem OwnD.kept {w w' : World} {X S gR cR : Nat} {G C : Nat → Nat → Nat} {W : Wd} (h : OwnD w X S gR cR G C W) (hb : Below w.heap.size w w') : OwnD w' X S gR cR G C W :=
 ⟨h.box.below hb h.box.lt, h.rows.below hb h.rows.row.lt, h.blk.below hb h.blk.lt, fun i hi => (hb.cell (p := ⟨S, i * 5, none⟩) h.blk.lt).trans (h.st i hi), fun i j hi hj => (hb.cell (p := ⟨S, i * 5 + (j + 1), none⟩) h.blk.lt).trans (h.cs i j hi hj),
  fun i j hi hj => (h.ls i j hi hj).below hb (h.ls i j hi hj).row.lt, h.neXS, h.neRX, h.neRS, h.neGX, h.neGS, h.neGR, h.inj⟩
theorem OwnD.list {w : World} {X S gR cR : Nat} {G C : Nat → Nat → Nat} {W : Wd} (h : OwnD w X S gR cR G C W) (hz : SzW W) {i j : Nat} (hi : i < W.ss.length) (hj : j < 4) : Lst w w.heap.size (slc (G i j) (W.ss[i].li j).length (C i j)) (W.ss[i].li j) :=
 (h.ls i j hi hj).lst (by have := (hz.li i j hi hj).1; omega) (hz.li i j hi hj).sz
theorem OwnD.left {w w' : World} {X S gR cR : Nat} {G C : Nat → Nat → Nat} {W : Wd} {base : Nat} (h : OwnD w X S gR cR G C W) (lo : LoD base X S gR G W.ss.length) {r v1 v2 v3 v4 : Value} (lr : LoV base r) (lv : LoV base v1 ∧ LoV base v2 ∧ LoV base v3 ∧ LoV base v4) (hz : SzW W) {i : Nat} (hi : i < W.ss.length) {s' : Sess} {rows' : PL} (hsz : w.heap.size ≤ w'.heap.size)
  (hbox : RowTo w' X 39 2 [r, slc S W.ss.length W.ss.length]) (hblk : RowTo w' S 115 (W.ss.length * 5) []) (hr : Lst w' w'.heap.size r rows')
  (hS : ∀ k j, k ≠ i → j < 5 → w'.cell? ⟨S, k * 5 + j, none⟩ = w.cell? ⟨S, k * 5 + j, none⟩)
  (hL : ∀ k j, k < W.ss.length → k ≠ i → j < 4 → w'.heap[G k j]? = w.heap[G k j]?)
  (hs : Ses w' w'.heap.size S (i * 5) s' v1 v2 v3 v4) : EndW w' base X S ⟨rows', W.ss.set i s'⟩ := by
 have hl : (W.ss.set i s').length = W.ss.length := List.length_set
 refine ⟨⟨r, by rw [hl]; exact hbox, ⟨hr, ⟨⟨_, _, rfl, by rw [hl]; exact nL _⟩, by rw [hl]; have := hz.many; omega, fun hn => ⟨S, 0, W.ss.length, by rw [hl]; rfl, hblk.lt, fun k hk => ?_⟩⟩⟩, lr⟩, by rw [hl]; exact hblk, lo.x, lo.s, fun k j v hk hj hv => ?_⟩
 case refine_2 =>
  rw [hl] at hk
  by_cases e : k = i
  ·subst e
   rcases j4 hj with rfl | rfl | rfl | rfl
   ·rw [hs.c1] at hv; injection hv with hv; rw [← hv]; exact lv.1
   ·rw [hs.c2] at hv; injection hv with hv; rw [← hv]; exact lv.2.1
   ·rw [hs.c3] at hv; injection hv with hv; rw [← hv]; exact lv.2.2.1
   ·rw [hs.c4] at hv; injection hv with hv; rw [← hv]; exact lv.2.2.2
  ·rw [hS k (j + 1) e (by omega), h.cs k j hk hj] at hv
   injection hv with hv
   rw [← hv]
   exact lo.v hk hj
 rw [hl] at hk
 rw [Nat.zero_add]
 by_cases e : k = i
 ·subst e
  simp only [List.getElem_set_self]
  exact ⟨_, _, _, _, hs⟩
 ·simp only [List.getElem_set_ne (Ne.symm e)]
  have c0 := (hS k 0 e (by omega)).trans (h.st k hk)
  have c1 := (hS k 1 e (by omega)).trans (h.cs k 0 hk (by omega))
  have c2 := (hS k 2 e (by omega)).trans (h.cs k 1 hk (by omega))
  have c3 := (hS k 3 e (by omega)).trans (h.cs k 2 hk (by omega))
  have c4 := (hS k 4 e (by omega)).trans (h.cs k 3 hk (by omega))
  have ll : ∀ j, j < 4 → Lst w' w'.heap.size (slc (G k j) (W.ss[k].li j).length (C k j)) (W.ss[k].li j) := fun j hj =>
   ((h.ls k j hk hj).same (hL k j hk e hj)).lst (by have := (hz.li k j hk hj).1; omega) (hz.li k j hk hj).sz
  exact ⟨_, _, _, _, c0, c1, c2, c3, c4, ll 0 (by omega), ll 1 (by omega), ll 2 (by omega), ll 3 (by omega)⟩
theorem Lst.none_ (w : World) (B : Nat) : Lst w B (.slice none 0 0) [] := ⟨⟨none, 0, rfl, nL _⟩, by simp, by simp, fun h => absurd h (by simp), fun n c h => by injection h with _ _ h; exact h.symm⟩
set_option maxHeartbeats 1000000 in
theorem begin_no (w : World) (p : Addr) (st : Int) (hc : w.cell? p = some (.int .i64 st)) (hst : st ≠ 0) :
  Calls Tryz.prog 65 #[.pointer (some p)] w fun e w' => e = .returned (ansV 4 tBegun) ∧ Below w.heap.size w w' := by
 have hp := World.block_lt_of_cell? w _ hc
 have h1 : (st != 0) = true := bne_iff_ne.2 hst
 clear hst
 go_enter Tryz.func65, Tryz.ntmps65
 go_wp2_with fail
 refine (failure_any tBegun _).mono ?_
 rintro e w9 ⟨rfl, hb9⟩
 have X9 := (RowTo.whole w #[.int .i64 0, .string ⟨#[]⟩, .int .i64 0] 46).below hb9 (by simp)
 have r0 := X9.cell (j := 0) (by simp)
 have r1 := X9.cell (j := 1) (by simp)
 have r2 := X9.cell (j := 2) (by simp)
 have s0 := X9.frozen 0
 have s1 := X9.frozen 1
 have s2 := X9.frozen 2
 simp only [gCZ, gCS] at r0 r1 r2
 have B9 := hD (bel_add' ((Below.refl w.heap.size w).alloc (nL _) _) hb9 (by simp))
 clear X9 hb9
 unfold ansV
 go_wp2
 refine bodyPost_ret (v := .agg #[.int .i64 4, .string tBegun, .int .i64 0]) (by simp [results, Tryz.results65, go_sem, r0, r1, r2]) rfl ⟨rfl, ?_⟩
 exact ((B9.out.setCell (by simp) _).setCell (by simp) _).setCell (by simp) _
end Go.Proofs.YtpbaobmegomfpabGreatDoor
namespace Go.Proofs.YtpbaobmegomfpabGreatDoor
open Go.RowKit
theorem madeCells_size (cs : Array Value) (n : Nat) : (madeCells cs n).size = n := by simp [madeCells]
theorem pair_info : (Tryz.prog.info? 60).map (fun i => (i.zero, i.size, i.bytes)) = some (some (.agg #[.string ⟨#[]⟩, .string ⟨#[]⟩]), 2, 32) := by kernel_rfl
theorem make_pairs (n : Nat) (h : n * 32 ≤ 140737488351232) (w : World) :
  (Instr.makeSlice 27 (.int .i64 (n : Int)) (.int .i64 (n : Int))).run Tryz.prog w = .ok (.slice (some ⟨w.heap.size, 0, none⟩) n n) (w.alloc (.cells (madeCells (Value.agg #[.string ⟨#[]⟩, .string ⟨#[]⟩]).cells (n * 2)) 60)) := by
 obtain ⟨i0, hi, hz0, hz1, hz2⟩ := info_parts pair_info
 have hr := run_make (P := Tryz.prog) w 27 60 i0 _ Tryz.underlying27 hi hz0 .i64 .i64 (n : Int) (n : Int) (by omega) (Int.le_refl _) (by rw [hz2]; omega) (by omega)
 rw [hz1] at hr
 simpa only [Int.toNat_natCast] using hr
theorem cell_set2 {w : World} {b R i j k : Nat} {u x y : Value} (h : w.cell? ⟨b, i, none⟩ = some u) (hne : b ≠ R) :
  ((w.setCell ⟨R, j, none⟩ x).setCell ⟨R, k, none⟩ y).cell? ⟨b, i, none⟩ = some u := by
 simp [go_sem, h]
theorem cell_neu (w : World) (cs : Array Value) (t : TypeId) (i : Nat) (h : i < cs.size) : (w.alloc (.cells cs t)).cell? ⟨w.heap.size, i, none⟩ = some cs[i] := by
 rw [World.cell?_alloc_at _ _ _ _ rfl, Array.getElem?_eq_getElem h]
theorem bel_add {B : Nat} {a b c : World} (h : Below B a b) (k : Below b.heap.size b c) (hB : B ≤ b.heap.size) : Below B a c := h.trans (k.mono hB)
theorem bel_addN {B n : Nat} {a b c : World} (h : Below B a b) (k : Below (b.drewN n).heap.size (b.drewN n) c) (hB : B ≤ b.heap.size) : Below B a c :=
 h.trans ⟨k.os, k.tape, k.output, k.size, fun i hi => k.block i (Nat.lt_of_lt_of_le hi hB)⟩
set_option maxHeartbeats 1000000 in
theorem copyPairs_any (v : Value) (l : PL) (w : World) (hl : Lst w w.heap.size v l) :
  Calls Tryz.prog 63 #[v] w fun e w' => ∃ g, e = .returned (.slice (some ⟨g, 0, none⟩) l.length l.length) ∧ w.heap.size ≤ g ∧ RowTo w' g 60 (l.length * 2) (flat l) ∧ Below w.heap.size w w' := by
 obtain ⟨A, c, rfl, hc⟩ := hl.form
 have hby := hl.bytes
 have hmk := make_pairs l.length hby
 have HL := hD hl
 clear hl
 go_enter Tryz.func63, Tryz.ntmps63
 go_wp2
 clear hmk
 go_loopw [11] (fun i wr => ∃ k : Nat, k ≤ l.length ∧ i = .int .i64 k ∧ RowTo wr w.heap.size 60 (l.length * 2) (flat (l.take k)) ∧ Below w.heap.size w wr) (fun i _ => l.length - (intOf i).toNat)
 case atStart =>
  refine ⟨0, by omega, rfl, ?_, (Below.refl _ _).alloc (nL _) _⟩
  have := RowTo.new w (madeCells #[.string ⟨#[]⟩, .string ⟨#[]⟩] (l.length * 2)) 60
  rw [madeCells_size] at this
  exact this
 case round =>
  obtain ⟨k, hk, rfl, hrow, bel⟩ := hrel
  by_cases hlt : k < l.length
  ·obtain ⟨b, off, rfl, hb, c0, c1⟩ := HL.out.pt hlt
   obtain ⟨z0, z1⟩ := HL.out.key hlt
   have hwlt := hrow.lt
   have d0 := (bel.cell (p := ⟨b, off + k * 2, none⟩) hb).trans c0
   have d1 := (bel.cell (p := ⟨b, off + k * 2 + 1, none⟩) hb).trans c1
   have HS := hD (flat_step l k hlt)
   have hlen := hD (show (flat (l.take k)).length = k * 2 by rw [flat_length, List.length_take]; omega)
   have HR := hD hrow
   have HB := hD bel
   clear hrow bel c0 c1
   go_wp2
   clear d0 d1
   generalize hq0 : l[k].1 = s0 at *
   generalize hq1 : l[k].2 = s1 at *
   have HQ := hD (And.intro hq0 hq1)
   clear hq0 hq1
   have e0 := cell_neu wr #[.string s0, .string s1] 60 0 (by simp)
   have e1 := cell_neu wr #[.string s0, .string s1] 60 1 (by simp)
   simp only [gTA, gCZ, gCS] at e0 e1
   have R0 := hD (HR.out.alloc (.cells #[.string s0, .string s1] 60))
   have B0 := hD (HB.out.alloc HB.out.size (.cells #[.string s0, .string s1] 60))
   have hz0 : wr.heap.size < (wr.alloc (.cells #[.string s0, .string s1] 60)).heap.size := by simp
   generalize wr.alloc (.cells #[.string s0, .string s1] 60) = W0 at *
   have kb := Below.refl W0.heap.size W0
   have hz1 : w.heap.size < W0.heap.size := by omega
   have hne : wr.heap.size ≠ w.heap.size := by omega
   go_region_held3 (fun wx => wx.cell? ⟨wr.heap.size, 0, none⟩ = some (.string s0) ∧ wx.cell? ⟨wr.heap.size, 1, none⟩ = some (.string s1))
    (first | exact ⟨e0, e1⟩ | exact ⟨cell_set2 ((kb.cell (p := ⟨wr.heap.size, 0, none⟩) hz0).trans e0) hne, cell_set2 ((kb.cell (p := ⟨wr.heap.size, 1, none⟩) hz0).trans e1) hne⟩ | exact ⟨(kb.cell (p := ⟨wr.heap.size, 0, none⟩) hz0).trans e0, (kb.cell (p := ⟨wr.heap.size, 1, none⟩) hz0).trans e1⟩)
    (first
     | (
      go_at_call_of 46 (Value.string s0)
      refine (clone_any s0 _ (by omega)).mono ?_
      rintro e w3 ⟨rfl, hy⟩
      have kb : Below W0.heap.size W0 w3 := by first | exact bel_add kb hy kb.size | exact bel_addN kb hy kb.size
      have R1 := hD (R0.out.below kb hz1)
      obtain ⟨u0, f0⟩ := R1.out.any (j := k * 2) (by omega)
      obtain ⟨u1, f1⟩ := R1.out.any (j := k * 2 + 1) (by omega)
      have g0 := R1.out.frozen (k * 2)
      have g1 := R1.out.frozen (k * 2 + 1))
     | (
      go_at_call_of 46 (Value.string s1)
      refine (clone_any s1 _ (by omega)).mono ?_
      rintro e w3 ⟨rfl, hy⟩
      have kb : Below W0.heap.size W0 w3 := by first | exact bel_add kb hy kb.size | exact bel_addN kb hy kb.size
      have R1 := hD (R0.out.below kb hz1)
      obtain ⟨u0, f0⟩ := R1.out.any (j := k * 2) (by omega)
      obtain ⟨u1, f1⟩ := R1.out.any (j := k * 2 + 1) (by omega)
      have g0 := R1.out.frozen (k * 2)
      have g1 := R1.out.frozen (k * 2 + 1)))
   go_wp2
   go_roundw
   case rel =>
    have l1 := hlen.out
    refine ⟨k + 1, by omega, by go_num, ?_, ?_⟩
    ·rw [HS.out]
     exact (R1.out.push (by omega) _ l1.symm).push (by simp; omega) _ (by simp; omega)
    ·exact ((B0.out.trans (kb.mono (by omega))).setCell (nL _) _).setCell (nL _) _
   case measure => simp [intOf]; omega
  ·go_wp2
   go_ret
   refine ⟨w.heap.size, rfl, nL _, ?_, bel⟩
   rw [List.take_of_length_le (by omega)] at hrow
   exact hrow
end Go.Proofs.YtpbaobmegomfpabGreatDoor
