/-
  Texts of the proof, one behind the other: Math, Math2, Math3, BackM, Lst, Mem, Wld.
-/
import Derived.WalkKit
import Derived.Lib.Bytealg
import Derived.Below
import Derived.Lib.Hide
import Derived.Deep.Draws
import Derived.Laws.OwnMore
set_option linter.unusedVariables false
set_option linter.unusedSimpArgs false
set_option maxRecDepth 100000
open List renaming getElem_toArray → gTA, getElem_cons_zero → gCZ, getElem_cons_succ → gCS, setIfInBounds_toArray → sTA, set_cons_zero → sCZ, set_cons_succ → sCS
open Nat renaming le_refl → nL
namespace Go.Proofs.YtpbaobmegomfpabGreatDoor
open Go.RowKit
def bndB (lo hi lim : Nat) (s : ByteArray) : Bool := decide (1 ≤ s.size) && decide (s.size ≤ lim) && s.data.toList.all fun c => decide (lo ≤ c.toNat) && decide (c.toNat ≤ hi)
theorem bndB_short {lo hi lim : Nat} {s : ByteArray} (h : s.size = 0 ∨ lim < s.size) : bndB lo hi lim s = false := by
 unfold bndB
 rcases h with h | h
 ·rw [decide_eq_false (by omega)]; rfl
 ·rw [decide_eq_false (p := s.size ≤ lim) (by omega)]; simp
theorem bndB_bad {lo hi lim : Nat} {s : ByteArray} {k : Nat} (hk : k < s.size) (h : s[k].toNat < lo ∨ hi < s[k].toNat) : bndB lo hi lim s = false := by
 unfold bndB
 have : (s.data.toList.all fun c => decide (lo ≤ c.toNat) && decide (c.toNat ≤ hi)) = false := by
  rw [List.all_eq_false]
  refine ⟨s[k], ?_, ?_⟩
  ·have : s[k] = s.data.toList[k]'(by simpa using hk) := rfl
   rw [this]; exact List.getElem_mem _
  ·simp; omega
 rw [this]; simp
theorem bndB_good {lo hi lim : Nat} {s : ByteArray} (h1 : 1 ≤ s.size) (h2 : s.size ≤ lim) (h : ∀ k (hk : k < s.size), lo ≤ s[k].toNat ∧ s[k].toNat ≤ hi) : bndB lo hi lim s = true := by
 unfold bndB
 rw [decide_eq_true h1, decide_eq_true h2]
 simp only [Bool.true_and, List.all_eq_true]
 intro c hc
 obtain ⟨k, hk, rfl⟩ := List.getElem_of_mem hc
 have := h k (by simpa using hk)
 have e : s[k]'(by simpa using hk) = s.data.toList[k] := rfl
 rw [e] at this
 simpa using this
def msg (k : UInt8) (s : ByteArray) : ByteArray := ⟨#[k, UInt8.ofNat s.size]⟩ ++ s
def inB (a n b : Int) : Bool := decide (a ≤ n) && decide (n ≤ b)
theorem inB_yes {a n b : Int} (h : a ≤ n ∧ n ≤ b) : inB a n b = true := by simp [inB, h]
theorem inB_no {a n b : Int} (h : ¬ (a ≤ n ∧ n ≤ b)) : inB a n b = false := by
 unfold inB; by_cases h1 : a ≤ n
 ·rw [decide_eq_false (p := n ≤ b) (by omega)]; simp
 ·rw [decide_eq_false h1]; rfl
def pickI (n m : Int) : Int := (if n < 0 then -(n + 1) else n) % m
theorem pickI_neg {n m : Int} (h : n < 0) : pickI n m = -(n + 1) % m := by unfold pickI; rw [if_pos h]
theorem pickI_pos {n m : Int} (h : ¬ n < 0) : pickI n m = n % m := by unfold pickI; rw [if_neg h]
theorem pickI_bd (n : Int) {m : Int} (hm : 0 < m) : 0 ≤ pickI n m ∧ pickI n m < m := ⟨Int.emod_nonneg _ (by omega), Int.emod_lt_of_pos _ hm⟩
theorem ret_int {k : IntKind} {a b : Int} (h : a = b) : Ending.returned (.int k a) = .returned (.int k b) := by rw [h]
theorem msg_size (k : UInt8) (s : ByteArray) : (msg k s).size = s.size + 2 := by
 unfold msg; rw [ByteArray.size_append]; show 2 + s.size = _; omega
theorem msg_toList (k : UInt8) (s : ByteArray) : (msg k s).data.toList = k :: UInt8.ofNat s.size :: s.data.toList := by
 unfold msg; rw [ByteArray.data_append]; simp
theorem get_toList (s : ByteArray) (i : Nat) (h : i < s.size) : s[i] = s.data.toList[i]'(by simpa using h) := rfl
theorem ba_ext {a b : ByteArray} (h : a.data.toList = b.data.toList) : a = b := by
 apply ByteArray.ext; exact Array.ext' h
end Go.Proofs.YtpbaobmegomfpabGreatDoor
namespace Go.Proofs.YtpbaobmegomfpabGreatDoor
open Go.RowKit
def blank : List UInt8 → Nat
 | [] => 0
 | c :: l => if c == 32 then 0 else blank l + 1
theorem blank_le (l : List UInt8) : blank l ≤ l.length := by
 induction l with
 | nil => exact nL _
 | cons c l ih => unfold blank; split <;> simp <;> omega
theorem blank_index (l : List UInt8) : Lib.indexByte l 32 = if blank l < l.length then (blank l : Int) else -1 := by
 induction l with
 | nil => rfl
 | cons c l ih =>
  by_cases h : (c == 32) = true
  ·have e1 : Lib.indexByte (c :: l) 32 = 0 := by unfold Lib.indexByte; rw [if_pos h]
   have e2 : blank (c :: l) = 0 := by unfold blank; rw [if_pos h]
   rw [e1, e2, if_pos (by simp)]; rfl
  ·have e1 : Lib.indexByte (c :: l) 32 = if Lib.indexByte l 32 == -1 then -1 else Lib.indexByte l 32 + 1 := by rw [Lib.indexByte, if_neg h]
   have e2 : blank (c :: l) = blank l + 1 := by rw [blank, if_neg h]
   by_cases hb : blank l < l.length
   ·have ih' : Lib.indexByte l 32 = (blank l : Int) := by rw [ih, if_pos hb]
    rw [e1, ih', e2, List.length_cons, if_neg (by simp), if_pos (by omega)]; rfl
   ·have ih' : Lib.indexByte l 32 = -1 := by rw [ih, if_neg hb]
    rw [e1, ih', e2, List.length_cons, if_pos (by rfl), if_neg (by omega)]
def cutI (s : ByteArray) : Nat := blank s.data.toList
def cutA (s : ByteArray) : ByteArray := s.extract 0 (cutI s)
def cutB (s : ByteArray) : ByteArray := s.extract (cutI s + 1) s.size
def cutF (s : ByteArray) : Bool := decide (cutI s < s.size)
theorem cutI_le (s : ByteArray) : cutI s ≤ s.size := by have := blank_le s.data.toList; simpa [cutI] using this
theorem cutI_index (s : ByteArray) : Lib.indexByte s.data.toList 32 = if cutF s then (cutI s : Int) else -1 := by
 rw [blank_index]; unfold cutF cutI; simp only [decide_eq_true_eq, Array.length_toList]; rfl
theorem cutA_all {s : ByteArray} (h : cutI s = s.size) : cutA s = s := by
 unfold cutA; rw [h]; apply ba_ext; simp
theorem cutB_none {s : ByteArray} (h : cutI s = s.size) : cutB s = ⟨#[]⟩ := by
 unfold cutB; rw [h]; apply ba_ext; simp
theorem cutA_size (s : ByteArray) : (cutA s).size = cutI s := by
 unfold cutA; rw [ByteArray.size_extract]; have := cutI_le s; omega
theorem cutB_size (s : ByteArray) : (cutB s).size = s.size - (cutI s + 1) := by
 unfold cutB; rw [ByteArray.size_extract]; omega
def wordL : Nat → List UInt8
 | 1 => [98, 101, 103, 105, 110]
 | 2 => [99, 111, 109, 109, 105, 116]
 | 3 => [114, 111, 108, 108, 98, 97, 99, 107]
 | 4 => [114, 101, 115, 101, 116]
 | 5 => [102, 97, 105, 108]
 | 6 => [103, 101, 116]
 | 7 => [114, 101, 97, 100]
 | 8 => [101, 120, 101, 99]
 | 9 => [115, 101, 116]
 | 10 => [112, 117, 116]
 | 11 => [112, 114, 101, 112]
 | _ => []
def wordAt (k : Nat) : ByteArray := ⟨(wordL k).toArray⟩
theorem wordAt_toList (k : Nat) : (wordAt k).data.toList = wordL k := by simp [wordAt]
def kindL (l : List UInt8) : Nat := ((List.range 12).find? fun k => decide (1 ≤ k) && (wordL k == l)).getD 0
def kindN (s : ByteArray) : Nat := kindL s.data.toList
theorem kindL_word : ∀ k, k ≤ 11 → 1 ≤ k → kindL (wordL k) = k := by decide
theorem kindN_hit {s : ByteArray} {k : Nat} (h1 : 1 ≤ k) (h2 : k ≤ 11) (h : wordL k = s.data.toList) : kindN s = k := by
 unfold kindN; rw [← h]; exact kindL_word k h2 h1
theorem kindN_none {s : ByteArray} (h : ∀ k, 1 ≤ k → k ≤ 11 → wordL k ≠ s.data.toList) : kindN s = 0 := by
 unfold kindN kindL
 rw [List.find?_eq_none.2]
 ·rfl
 ·intro k hk
  simp only [List.mem_range] at hk
  simp only [Bool.and_eq_true, decide_eq_true_eq, beq_iff_eq, not_and]
  exact fun h1 => h k h1 (by omega)
theorem kindN_le (s : ByteArray) : kindN s ≤ 11 := by
 unfold kindN kindL
 cases hf : (List.range 12).find? fun k => decide (1 ≤ k) && (wordL k == s.data.toList) with
 | none => simp
 | some k =>
  have := List.mem_of_find?_eq_some hf
  simp only [List.mem_range] at this
  simp; omega
theorem kindN_word {s : ByteArray} (h : 1 ≤ kindN s) : wordL (kindN s) = s.data.toList := by
 unfold kindN kindL at h ⊢
 cases hf : (List.range 12).find? fun k => decide (1 ≤ k) && (wordL k == s.data.toList) with
 | none => rw [hf] at h; simp at h
 | some k =>
  have := List.find?_some hf
  simp only [Bool.and_eq_true, decide_eq_true_eq, beq_iff_eq] at this
  simp [this.2]
def splitBad (t : ByteArray) : Bool := (cutF t && (cutA (cutB t)).toList.isEmpty) || (cutF (cutB t) && (cutB (cutB t)).toList.isEmpty)
def splitE (t : ByteArray) : Int := if kindN (cutA t) = 0 then 3 else if splitBad t = true then 4 else 0
theorem splitE_ok {t : ByteArray} (h : splitE t = 0) : kindN (cutA t) ≠ 0 ∧ splitBad t = false := by
 unfold splitE at h
 split at h
 ·omega
 ·rename_i h0
  split at h
  ·omega
  ·rename_i h1; exact ⟨h0, by simpa using h1⟩
theorem splitE_kind {t : ByteArray} (h : kindN (cutA t) = 0) : splitE t = 3 := by unfold splitE; rw [if_pos h]
theorem splitE_form {t : ByteArray} (h : kindN (cutA t) ≠ 0) (hb : splitBad t = true) : splitE t = 4 := by unfold splitE; rw [if_neg h, if_pos hb]
theorem splitE_bad {t : ByteArray} (h : kindN (cutA t) ≠ 0) (he : splitE t ≠ 0) : splitBad t = true := by
 unfold splitE at he
 rw [if_neg h] at he
 cases hb : splitBad t
 ·rw [hb] at he; simp at he
 ·rfl
theorem cutF_none {t : ByteArray} (h : cutF t = false) : cutF (cutB t) = false := by
 have := cutB_size t
 unfold cutF at h ⊢
 simp only [decide_eq_false_iff_not] at h ⊢
 omega
def plainV (k : Int) (v : ByteArray) : Bool := if k = 9 ∨ k = 10 then bndB 33 126 20 v else v.toList.isEmpty
theorem plainV_yes {k : Int} {v : ByteArray} (h : k = 9 ∨ k = 10) : plainV k v = bndB 33 126 20 v := by unfold plainV; rw [if_pos h]
theorem plainV_no {k : Int} {v : ByteArray} (h : ¬ (k = 9 ∨ k = 10)) : plainV k v = v.toList.isEmpty := by unfold plainV; rw [if_neg h]
def keyB (k : Int) (key : ByteArray) : Bool := if 6 ≤ k ∧ k ≤ 11 then bndB 97 122 8 key else key.toList.isEmpty
theorem keyB_yes {k : Int} {v : ByteArray} (h : 6 ≤ k ∧ k ≤ 11) : keyB k v = bndB 97 122 8 v := by unfold keyB; rw [if_pos h]
theorem keyB_no {k : Int} {v : ByteArray} (h : ¬ (6 ≤ k ∧ k ≤ 11)) : keyB k v = v.toList.isEmpty := by unfold keyB; rw [if_neg h]
def prepB (t : ByteArray) : Bool := decide (splitE t = 0) && (decide (kindN (cutA t) = 6 ∨ kindN (cutA t) = 7 ∨ kindN (cutA t) = 10) && (bndB 97 122 8 (cutA (cutB t)) && plainV (kindN (cutA t)) (cutB (cutB t))))
theorem prepB_split {t : ByteArray} (h : splitE t ≠ 0) : prepB t = false := by unfold prepB; rw [decide_eq_false h, Bool.false_and]
theorem prepB_kind {t : ByteArray} (h : ¬ (kindN (cutA t) = 6 ∨ kindN (cutA t) = 7 ∨ kindN (cutA t) = 10)) : prepB t = false := by unfold prepB; rw [decide_eq_false h]; simp
theorem prepB_rest {t : ByteArray} (h : splitE t = 0) (hk : kindN (cutA t) = 6 ∨ kindN (cutA t) = 7 ∨ kindN (cutA t) = 10) :
  prepB t = (bndB 97 122 8 (cutA (cutB t)) && plainV (kindN (cutA t)) (cutB (cutB t))) := by unfold prepB; rw [decide_eq_true h, decide_eq_true hk, Bool.true_and, Bool.true_and]
def valueB (k : Int) (v : ByteArray) : Bool := if k = 11 then prepB v else plainV k v
def checkE (k : Int) (key v : ByteArray) : Int := if k < 1 ∨ 11 < k then 3 else if (keyB k key && valueB k v) = true then 0 else 4
theorem checkE_kind {k : Int} {key v : ByteArray} (h : k < 1 ∨ 11 < k) : checkE k key v = 3 := by unfold checkE; rw [if_pos h]
theorem checkE_ok {k : Int} {key v : ByteArray} (h : ¬ (k < 1 ∨ 11 < k)) (h1 : keyB k key = true) (h2 : valueB k v = true) : checkE k key v = 0 := by unfold checkE; rw [if_neg h, h1, h2]; rfl
theorem checkE_key {k : Int} {key v : ByteArray} (h : ¬ (k < 1 ∨ 11 < k)) (h1 : keyB k key = false) : checkE k key v = 4 := by unfold checkE; rw [if_neg h, h1]; rfl
theorem checkE_value {k : Int} {key v : ByteArray} (h : ¬ (k < 1 ∨ 11 < k)) (h2 : valueB k v = false) : checkE k key v = 4 := by unfold checkE; rw [if_neg h, h2]; simp
def readE (t : ByteArray) : Int := if 60 < t.size then 1 else if splitE t = 0 then checkE (kindN (cutA t)) (cutA (cutB t)) (cutB (cutB t)) else splitE t
theorem readE_long {t : ByteArray} (h : 60 < t.size) : readE t = 1 := by unfold readE; rw [if_pos h]
theorem readE_split {t : ByteArray} (h : ¬ 60 < t.size) (h1 : splitE t ≠ 0) : readE t = splitE t := by unfold readE; rw [if_neg h, if_neg h1]
theorem readE_check {t : ByteArray} (h : ¬ 60 < t.size) (h1 : splitE t = 0) : readE t = checkE (kindN (cutA t)) (cutA (cutB t)) (cutB (cutB t)) := by unfold readE; rw [if_neg h, if_pos h1]
theorem isEmpty_size {s : ByteArray} (h : s.toList.isEmpty = true) : s.size = 0 := by
 rw [Lib.toList_data, List.isEmpty_iff] at h
 have e : s.size = s.data.toList.length := by simp
 rw [e, h]; rfl
theorem bndB_size {lo hi lim : Nat} {s : ByteArray} (h : bndB lo hi lim s = true) : 1 ≤ s.size ∧ s.size ≤ lim := by
 unfold bndB at h
 simp only [Bool.and_eq_true, decide_eq_true_eq] at h
 exact h.1
theorem wordL_len : ∀ k, k ≤ 11 → (wordL k).length ≤ 8 := by decide
theorem cut_total (t : ByteArray) : t.size ≤ (cutA t).size + 1 + (cutB t).size := by
 have := cutA_size t
 have := cutB_size t
 have := cutI_le t
 omega
theorem kind_size {t : ByteArray} (h : kindN (cutA t) ≠ 0) : (cutA t).size ≤ 8 := by
 have h1 := kindN_word (s := cutA t) (by omega)
 have h2 := wordL_len (kindN (cutA t)) (kindN_le _)
 rw [h1] at h2
 simpa using h2
theorem plainV_size {k : Int} {v : ByteArray} (h : plainV k v = true) : v.size ≤ 20 := by
 unfold plainV at h
 split at h
 ·exact (bndB_size h).2
 ·have := isEmpty_size h; omega
theorem prepB_read (t : ByteArray) : prepB t = (decide (readE t = 0) && decide (kindN (cutA t) = 6 ∨ kindN (cutA t) = 7 ∨ kindN (cutA t) = 10)) := by
 by_cases hk : kindN (cutA t) = 6 ∨ kindN (cutA t) = 7 ∨ kindN (cutA t) = 10
 ·rw [decide_eq_true hk, Bool.and_true]
  by_cases h : splitE t = 0
  ·rw [prepB_rest h hk]
   have hkb : keyB (kindN (cutA t)) (cutA (cutB t)) = bndB 97 122 8 (cutA (cutB t)) := keyB_yes (by omega)
   have hvb : valueB (kindN (cutA t)) (cutB (cutB t)) = plainV (kindN (cutA t)) (cutB (cutB t)) := by unfold valueB; rw [if_neg (by omega)]
   have hk1 : ¬ ((kindN (cutA t) : Int) < 1 ∨ 11 < (kindN (cutA t) : Int)) := by omega
   cases h1 : bndB 97 122 8 (cutA (cutB t))
   ·by_cases hl : 60 < t.size
    ·rw [readE_long hl]; rfl
    ·rw [readE_check hl h, checkE_key hk1 (hkb.trans h1)]; rfl
   ·cases h2 : plainV (kindN (cutA t)) (cutB (cutB t))
    ·by_cases hl : 60 < t.size
     ·rw [readE_long hl]; rfl
     ·rw [readE_check hl h, checkE_value hk1 (hvb.trans h2)]; rfl
    ·have hl : ¬ 60 < t.size := by
      have a1 := cut_total t
      have a2 := cut_total (cutB t)
      have a3 := kind_size (t := t) (by omega)
      have a4 := bndB_size h1
      have a5 := plainV_size h2
      omega
     rw [readE_check hl h, checkE_ok hk1 (hkb.trans h1) (hvb.trans h2)]; rfl
  ·rw [prepB_split h]
   by_cases hl : 60 < t.size
   ·rw [readE_long hl]; rfl
   ·rw [readE_split hl h, decide_eq_false h]
 ·rw [prepB_kind hk, decide_eq_false hk, Bool.and_false]
theorem cutF_parts {t : ByteArray} (h : cutF t = false) : cutA (cutB t) = ⟨#[]⟩ ∧ cutB (cutB t) = ⟨#[]⟩ := by
 have h0 : cutI t = t.size := by
  have := cutI_le t
  unfold cutF at h
  simp only [decide_eq_false_iff_not] at h
  omega
 rw [cutB_none h0]
 exact ⟨rfl, rfl⟩
theorem splitBad_none {t : ByteArray} (h : cutF t = false) : splitBad t = false := by
 unfold splitBad; rw [h, cutF_none h]; rfl
theorem splitE_zero {t : ByteArray} (h : kindN (cutA t) ≠ 0) (hb : splitBad t = false) : splitE t = 0 := by
 unfold splitE; rw [if_neg h, hb]; rfl
end Go.Proofs.YtpbaobmegomfpabGreatDoor
namespace Go.Proofs.YtpbaobmegomfpabGreatDoor
open Go.RowKit
theorem empty_of {s : ByteArray} (h : s.size = 0) : s.toList.isEmpty = true := by
 rw [Lib.toList_data, List.isEmpty_iff]
 have : s.data.toList.length = 0 := by simpa using congrArg (fun n => n) (show s.data.size = 0 from h)
 exact List.length_eq_zero_iff.1 this
theorem full_of {s : ByteArray} (h : 1 ≤ s.size) : s.toList.isEmpty = false := by
 cases e : s.toList.isEmpty
 ·rfl
 ·have := isEmpty_size e; omega
theorem wordL_pos : ∀ k, k ≤ 11 → 1 ≤ k → 1 ≤ (wordL k).length := by decide
theorem kind_pos {t : ByteArray} (h : kindN (cutA t) ≠ 0) : 1 ≤ t.size := by
 have h1 := kindN_word (s := cutA t) (by omega)
 have h2 := wordL_pos (kindN (cutA t)) (kindN_le _) (by omega)
 rw [h1] at h2
 have h3 : (cutA t).data.toList.length = (cutA t).size := by simp
 have := cutA_size t
 have := cutI_le t
 omega
theorem prepB_size {v : ByteArray} (h : prepB v = true) : 1 ≤ v.size ∧ v.size ≤ 60 := by
 rw [prepB_read] at h
 simp only [Bool.and_eq_true, decide_eq_true_eq] at h
 refine ⟨kind_pos (by omega), ?_⟩
 by_cases hl : 60 < v.size
 ·rw [readE_long hl] at h; omega
 ·omega
structure Good (k : Int) (key v : ByteArray) : Prop where
 lo : 1 ≤ k
 hi : k ≤ 11
 key8 : key.size ≤ 8
 v60 : v.size ≤ 60
 keyE : key.toList.isEmpty = decide (k < 6)
 vE : v.toList.isEmpty = decide (k < 9)
theorem good_of {k : Int} {key v : ByteArray} (h : checkE k key v = 0) : Good k key v := by
 by_cases hk : k < 1 ∨ 11 < k
 ·rw [checkE_kind hk] at h; cases h
 ·cases h1 : keyB k key
  ·rw [checkE_key hk h1] at h; cases h
  ·cases h2 : valueB k v
   ·rw [checkE_value hk h2] at h; cases h
   ·have a1 : key.size ≤ 8 ∧ key.toList.isEmpty = decide (k < 6) := by
     by_cases h6 : 6 ≤ k ∧ k ≤ 11
     ·rw [keyB_yes h6] at h1
      have := bndB_size h1
      exact ⟨this.2, by rw [full_of this.1, decide_eq_false (by omega)]⟩
     ·rw [keyB_no h6] at h1
      exact ⟨by have := isEmpty_size h1; omega, by rw [h1, decide_eq_true (by omega)]⟩
    have a2 : v.size ≤ 60 ∧ v.toList.isEmpty = decide (k < 9) := by
     by_cases h11 : k = 11
     ·unfold valueB at h2
      rw [if_pos h11] at h2
      have := prepB_size h2
      exact ⟨this.2, by rw [full_of this.1, decide_eq_false (by omega)]⟩
     ·unfold valueB at h2
      rw [if_neg h11] at h2
      by_cases h9 : k = 9 ∨ k = 10
      ·rw [plainV_yes h9] at h2
       have := bndB_size h2
       exact ⟨by omega, by rw [full_of this.1, decide_eq_false (by omega)]⟩
      ·rw [plainV_no h9] at h2
       exact ⟨by have := isEmpty_size h2; omega, by rw [h2, decide_eq_true (by omega)]⟩
    exact ⟨by omega, by omega, a1.1, a2.1, a1.2, a2.2⟩
def textOf (k : Nat) (key v : ByteArray) : ByteArray :=
 if k < 6 then wordAt k else if k < 9 then wordAt k ++ (⟨#[32]⟩ ++ key) else (wordAt k ++ (⟨#[32]⟩ ++ key)) ++ (⟨#[32]⟩ ++ v)
theorem textOf_6 {k : Nat} {key v : ByteArray} (h : k < 6) : textOf k key v = wordAt k := by unfold textOf; rw [if_pos h]
theorem textOf_9 {k : Nat} {key v : ByteArray} (h : ¬ k < 6) (h2 : k < 9) : textOf k key v = wordAt k ++ (⟨#[32]⟩ ++ key) := by unfold textOf; rw [if_neg h, if_pos h2]
theorem textOf_12 {k : Nat} {key v : ByteArray} (h : ¬ k < 9) : textOf k key v = (wordAt k ++ (⟨#[32]⟩ ++ key)) ++ (⟨#[32]⟩ ++ v) := by unfold textOf; rw [if_neg (by omega), if_neg h]
theorem wordAt_size {k : Nat} (h : k ≤ 11) : (wordAt k).size ≤ 8 := by
 have h1 := wordL_len k h
 have h2 : (wordAt k).size = (wordL k).length := by show (wordAt k).data.size = _; simp [wordAt]
 omega
end Go.Proofs.YtpbaobmegomfpabGreatDoor
namespace Go.Proofs.YtpbaobmegomfpabGreatDoor
open Go.RowKit
abbrev PL := List (ByteArray × ByteArray)
def eqB (a b : ByteArray) : Bool := a.toList == b.toList
def ltB (a b : ByteArray) : Bool := Op.bytesLess a.toList b.toList
theorem eqB_iff {a b : ByteArray} : eqB a b = true ↔ a = b := by
 unfold eqB
 rw [beq_iff_eq, Lib.toList_data, Lib.toList_data]
 exact ⟨fun h => ba_ext h, fun h => by rw [h]⟩
theorem eqB_self (a : ByteArray) : eqB a a = true := eqB_iff.2 rfl
theorem bl_irrefl : ∀ l : List UInt8, Op.bytesLess l l = false
 | [] => rfl
 | a :: l => by simp [Op.bytesLess, bl_irrefl l]
theorem bl_trans : ∀ {x y z : List UInt8}, Op.bytesLess x y = true → Op.bytesLess y z = true → Op.bytesLess x z = true
 | [], [], _, h, _ => by simp [Op.bytesLess] at h
 | [], b :: y, [], _, h => by simp [Op.bytesLess] at h
 | [], b :: y, c :: z, _, _ => by simp [Op.bytesLess]
 | a :: x, [], _, h, _ => by simp [Op.bytesLess] at h
 | a :: x, b :: y, [], _, h => by simp [Op.bytesLess] at h
 | a :: x, b :: y, c :: z, h1, h2 => by
  simp only [Op.bytesLess, Bool.or_eq_true, decide_eq_true_eq, Bool.and_eq_true, beq_iff_eq] at h1 h2 ⊢
  rcases h1 with h1 | ⟨rfl, h1⟩
  ·rcases h2 with h2 | ⟨rfl, h2⟩
   ·exact .inl (UInt8.lt_trans h1 h2)
   ·exact .inl h1
  ·rcases h2 with h2 | ⟨rfl, h2⟩
   ·exact .inl h2
   ·exact .inr ⟨rfl, bl_trans h1 h2⟩
theorem bl_total : ∀ {x y : List UInt8}, Op.bytesLess x y = false → Op.bytesLess y x = false → x = y
 | [], [], _, _ => rfl
 | [], b :: y, h, _ => by simp [Op.bytesLess] at h
 | a :: x, [], _, h => by simp [Op.bytesLess] at h
 | a :: x, b :: y, h1, h2 => by
  simp only [Op.bytesLess, Bool.or_eq_false_iff, decide_eq_false_iff_not, Bool.and_eq_false_iff, beq_eq_false_iff_ne] at h1 h2
  have e : a = b := by
   apply UInt8.toNat_inj.1
   have h3 := h1.1
   have h4 := h2.1
   rw [UInt8.lt_iff_toNat_lt] at h3 h4
   omega
  subst e
  rw [bl_total (h1.2.resolve_left (by simp)) (h2.2.resolve_left (by simp))]
theorem ltB_irrefl (a : ByteArray) : ltB a a = false := bl_irrefl _
theorem ltB_trans {a b c : ByteArray} (h1 : ltB a b = true) (h2 : ltB b c = true) : ltB a c = true := bl_trans h1 h2
theorem ltB_total {a b : ByteArray} (h1 : ltB a b = false) (h2 : ltB b a = false) : a = b := by
 have := bl_total h1 h2
 rw [Lib.toList_data, Lib.toList_data] at this
 exact ba_ext this
theorem ltB_ne {a b : ByteArray} (h : ltB a b = true) : a ≠ b := fun e => by rw [e, ltB_irrefl] at h; cases h
theorem ltB_asymm {a b : ByteArray} (h : ltB a b = true) : ltB b a = false := by
 cases e : ltB b a
 ·rfl
 ·have := ltB_trans h e; rw [ltB_irrefl] at this; cases this
def atL : PL → ByteArray → Option ByteArray
 | [], _ => none
 | p :: l, k => if eqB p.1 k then some p.2 else atL l k
def plusGo (k v : ByteArray) : Bool → PL → PL
 | done, [] => if done then [] else [(k, v)]
 | done, p :: l => (if !done && !ltB p.1 k then [(k, v)] else []) ++ ((if eqB p.1 k then [] else [p]) ++ plusGo k v (done || !ltB p.1 k) l)
def plusL (l : PL) (k v : ByteArray) : PL := plusGo k v false l
def risingB : PL → Bool
 | [] => true
 | [_] => true
 | p :: q :: l => ltB p.1 q.1 && risingB (q :: l)
def pairsB (l : PL) (most : Nat) (kind : Int) : Bool := (l.all fun p => decide (checkE kind p.1 p.2 = 0)) && (risingB l && decide (l.length ≤ most))
structure Sess where
 st : Int
 set : PL
 prep : PL
 sav : PL
 wr : PL
structure Wd where
 rows : PL
 ss : List Sess
end Go.Proofs.YtpbaobmegomfpabGreatDoor
namespace Go.Proofs.YtpbaobmegomfpabGreatDoor
open Go.RowKit
structure Lst (w : World) (B : Nat) (v : Value) (l : PL) : Prop where
 form : ∃ A c, v = .slice A l.length c ∧ l.length ≤ c
 bytes : l.length * 32 ≤ 140737488351232
 sizes : ∀ p ∈ l, p.1.size ≤ 140737488351232 ∧ p.2.size ≤ 140737488351232
 cells : 0 < l.length → ∃ b off c, v = .slice (some ⟨b, off, none⟩) l.length c ∧ b < B ∧
  ∀ i (h : i < l.length), w.cell? ⟨b, off + i * 2, none⟩ = some (.string l[i].1) ∧ w.cell? ⟨b, off + i * 2 + 1, none⟩ = some (.string l[i].2)
 nil : ∀ n c, v = .slice none n c → c = 0
theorem Lst.keep {w w' : World} {B B' : Nat} {v : Value} {l : PL} (h : Lst w B v l) (hB : B ≤ B') (hk : ∀ p : Addr, p.block < B → w'.cell? p = w.cell? p) : Lst w' B' v l := by
 refine ⟨h.form, h.bytes, h.sizes, fun hn => ?_, h.nil⟩
 obtain ⟨b, off, c, e, hb, hc⟩ := h.cells hn
 exact ⟨b, off, c, e, by omega, fun i hi => ⟨(hk _ hb).trans (hc i hi).1, (hk _ hb).trans (hc i hi).2⟩⟩
theorem Lst.below {w w' : World} {B : Nat} {v : Value} {l : PL} (h : Lst w B v l) (hb : Below B w w') : Lst w' B v l := h.keep (nL _) fun _ hp => hb.cell hp
theorem Lst.more {w : World} {B B' : Nat} {v : Value} {l : PL} (h : Lst w B v l) (hB : B ≤ B') : Lst w B' v l := h.keep hB fun _ _ => rfl
theorem Lst.alloc {w : World} {B : Nat} {v : Value} {l : PL} (h : Lst w B v l) (hB : B ≤ w.heap.size) (o : Obj) : Lst (w.alloc o) B v l := h.keep (nL _) fun p hp => World.cell?_alloc_lt w o p (by omega)
theorem Lst.drew {w : World} {B : Nat} {v : Value} {l : PL} (h : Lst w B v l) : Lst w.drew B v l := h.keep (nL _) fun _ _ => rfl
theorem Lst.drewN {w : World} {B : Nat} {v : Value} {l : PL} (h : Lst w B v l) (k : Nat) : Lst (w.drewN k) B v l := h.keep (nL _) fun _ _ => rfl
theorem Lst.setCell {w : World} {B : Nat} {v : Value} {l : PL} (h : Lst w B v l) {p : Addr} (hB : B ≤ p.block) (u : Value) : Lst (w.setCell p u) B v l :=
 h.keep (nL _) fun q hq => World.cell?_setCell_other w p q u (fun e => by subst e; omega)
theorem Lst.at {w : World} {B : Nat} {v : Value} {l : PL} (h : Lst w B v l) {k : Nat} (hk : k < l.length) :
  ∃ b off c, v = .slice (some ⟨b, off, none⟩) l.length c ∧ b < B ∧ w.cell? ⟨b, off + k * 2, none⟩ = some (.string l[k].1) ∧ w.cell? ⟨b, off + k * 2 + 1, none⟩ = some (.string l[k].2) := by
 obtain ⟨b, off, c, e, hb, hc⟩ := h.cells (by omega)
 exact ⟨b, off, c, e, hb, (hc k hk).1, (hc k hk).2⟩
theorem Lst.key {w : World} {B : Nat} {v : Value} {l : PL} (h : Lst w B v l) {k : Nat} (hk : k < l.length) : l[k].1.size ≤ 140737488351232 ∧ l[k].2.size ≤ 140737488351232 := h.sizes _ (List.getElem_mem hk)
theorem Lst.pt {w : World} {B n c : Nat} {A : Option Addr} {l : PL} (h : Lst w B (.slice A n c) l) {k : Nat} (hk : k < l.length) :
  ∃ b off, A = some ⟨b, off, none⟩ ∧ b < B ∧ w.cell? ⟨b, off + k * 2, none⟩ = some (.string l[k].1) ∧ w.cell? ⟨b, off + k * 2 + 1, none⟩ = some (.string l[k].2) := by
 obtain ⟨b, off, c', e, hb, hc⟩ := h.at hk
 injection e with e1 e2 e3
 exact ⟨b, off, e1, hb, hc⟩
end Go.Proofs.YtpbaobmegomfpabGreatDoor
namespace Go.Proofs.YtpbaobmegomfpabGreatDoor
open Go.RowKit
def RowTo (w : World) (g t n : Nat) (xs : List Value) : Prop := ∃ cur : Array Value, w.heap[g]? = some (.cells cur t (0, 0)) ∧ cur.size = n ∧ cur.toList.take xs.length = xs
section
variable {w w' : World} {g t n B : Nat} {xs : List Value}
theorem RowTo.len (h : RowTo w g t n xs) : xs.length ≤ n := by
 obtain ⟨cur, _, hs, hx⟩ := h
 have := congrArg List.length hx
 simp at this
 omega
theorem RowTo.lt (h : RowTo w g t n xs) : g < w.heap.size := by
 obtain ⟨cur, hh, _⟩ := h
 exact (Array.getElem?_eq_some_iff.1 hh).1
theorem RowTo.same (h : RowTo w g t n xs) (e : w'.heap[g]? = w.heap[g]?) : RowTo w' g t n xs := by
 obtain ⟨cur, hh, r⟩ := h
 exact ⟨cur, e.trans hh, r⟩
theorem RowTo.below (h : RowTo w g t n xs) (hb : Below B w w') (hg : g < B) : RowTo w' g t n xs := h.same (hb.block g hg)
theorem RowTo.alloc (h : RowTo w g t n xs) (o : Obj) : RowTo (w.alloc o) g t n xs := h.same (Below.heap_alloc _ _ _ h.lt)
theorem RowTo.drew (h : RowTo w g t n xs) : RowTo w.drew g t n xs := h
theorem RowTo.drewN (h : RowTo w g t n xs) (k : Nat) : RowTo (w.drewN k) g t n xs := h
theorem RowTo.other (h : RowTo w g t n xs) {p : Addr} (hp : p.block ≠ g) (u : Value) : RowTo (w.setCell p u) g t n xs := h.same (Below.heap_setCell _ _ _ _ (fun e => hp e.symm))
theorem RowTo.cell (h : RowTo w g t n xs) {j : Nat} (hj : j < xs.length) : w.cell? ⟨g, j, none⟩ = some xs[j] := by
 obtain ⟨cur, hh, hs, hx⟩ := h
 unfold World.cell?
 simp only [hh]
 have e : cur[j]? = cur.toList[j]? := by simp
 show cur[j]? = _
 rw [e]
 have : cur.toList[j]? = (cur.toList.take xs.length)[j]? := by rw [List.getElem?_take, if_pos hj]
 rw [this, hx, List.getElem?_eq_getElem hj]
theorem RowTo.any (h : RowTo w g t n xs) {j : Nat} (hj : j < n) : ∃ u, w.cell? ⟨g, j, none⟩ = some u := by
 obtain ⟨cur, hh, hs, hx⟩ := h
 refine ⟨cur[j]'(by omega), ?_⟩
 unfold World.cell?
 simp only [hh]
 show cur[j]? = _
 rw [Array.getElem?_eq_getElem (by omega)]
theorem RowTo.frozen (h : RowTo w g t n xs) (j : Nat) : w.frozen? ⟨g, j, none⟩ = false := by
 obtain ⟨cur, hh, hs, hx⟩ := h
 unfold World.frozen?
 simp [hh]
theorem RowTo.push (h : RowTo w g t n xs) (hl : xs.length < n) (u : Value) {j : Nat} (hj : j = xs.length) : RowTo (w.setCell ⟨g, j, none⟩ u) g t n (xs ++ [u]) := by
 subst hj
 have hlt := h.lt
 obtain ⟨cur, hh, hs, hx⟩ := h
 refine ⟨cur.setIfInBounds xs.length u, ?_, by simpa using hs, ?_⟩
 ·simp [World.setCell, Array.getElem?_modify, hh]
 ·rw [Array.toList_setIfInBounds, List.length_append, List.length_singleton, List.take_add_one, List.getElem?_set, if_pos rfl, List.take_set_of_le (nL _), hx, if_pos (by simp; omega)]
  rfl
theorem RowTo.put (h : RowTo w g t n xs) {j : Nat} (hj : j < xs.length) (u : Value) : RowTo (w.setCell ⟨g, j, none⟩ u) g t n (xs.set j u) := by
 obtain ⟨cur, hh, hs, hx⟩ := h
 refine ⟨cur.setIfInBounds j u, ?_, by simpa using hs, ?_⟩
 ·simp [World.setCell, Array.getElem?_modify, hh]
 ·rw [Array.toList_setIfInBounds, List.length_set, List.take_set, hx]
theorem RowTo.new (w : World) (cs : Array Value) (t : TypeId) : RowTo (w.alloc (.cells cs t)) w.heap.size t cs.size [] :=
 ⟨cs, heap_alloc_new w _, rfl, rfl⟩
theorem RowTo.whole (w : World) (cs : Array Value) (t : TypeId) : RowTo (w.alloc (.cells cs t)) w.heap.size t cs.size cs.toList :=
 ⟨cs, heap_alloc_new w _, rfl, by rw [List.take_of_length_le (by simp)]⟩
theorem RowTo.front (h : RowTo w g t n xs) (k : Nat) : RowTo w g t n (xs.take k) := by
 obtain ⟨cur, hh, hs, hx⟩ := h
 refine ⟨cur, hh, hs, ?_⟩
 rw [List.length_take, ← List.take_take, hx]
end
def flat (l : PL) : List Value := l.flatMap fun p => [.string p.1, .string p.2]
theorem flat_nil : flat [] = [] := rfl
theorem flat_cons (p : ByteArray × ByteArray) (l : PL) : flat (p :: l) = .string p.1 :: .string p.2 :: flat l := rfl
theorem flat_append (l m : PL) : flat (l ++ m) = flat l ++ flat m := by unfold flat; rw [List.flatMap_append]
theorem flat_length (l : PL) : (flat l).length = l.length * 2 := by
 induction l with
 | nil => rfl
 | cons p l ih => rw [flat_cons]; simp only [List.length_cons, ih]; omega
theorem flat_fst : ∀ (l : PL) (i : Nat) (h : i < l.length), (flat l)[i * 2]? = some (.string l[i].1)
 | p :: l, 0, h => rfl
 | p :: l, i + 1, h => by rw [flat_cons, show (i + 1) * 2 = i * 2 + 1 + 1 by omega]; simpa using flat_fst l i (by simpa using h)
theorem flat_snd : ∀ (l : PL) (i : Nat) (h : i < l.length), (flat l)[i * 2 + 1]? = some (.string l[i].2)
 | p :: l, 0, h => rfl
 | p :: l, i + 1, h => by rw [flat_cons, show (i + 1) * 2 + 1 = i * 2 + 1 + 1 + 1 by omega]; simpa using flat_snd l i (by simpa using h)
theorem flat_take (l : PL) (k : Nat) : flat (l.take k) = (flat l).take (k * 2) := by
 induction l generalizing k with
 | nil => simp [flat_nil]
 | cons p l ih =>
  cases k with
  | zero => simp [flat_nil]
  | succ k => rw [List.take_succ_cons, flat_cons, flat_cons, ih, show (k + 1) * 2 = k * 2 + 1 + 1 by omega]; rfl
theorem flat_step (l : PL) (k : Nat) (h : k < l.length) : flat (l.take (k + 1)) = flat (l.take k) ++ [.string l[k].1] ++ [.string l[k].2] := by
 rw [List.take_succ_eq_append_getElem h, flat_append]; simp [flat]
theorem RowTo.lst {w : World} {g t n c B : Nat} {l : PL} (h : RowTo w g t n (flat l)) (hc : l.length ≤ c) (hB : g < B) (hby : l.length * 32 ≤ 140737488351232) (hs : ∀ p ∈ l, p.1.size ≤ 140737488351232 ∧ p.2.size ≤ 140737488351232) :
  Lst w B (.slice (some ⟨g, 0, none⟩) l.length c) l := by
 refine ⟨⟨_, c, rfl, hc⟩, hby, hs, fun _ => ⟨g, 0, c, rfl, hB, fun i hi => ⟨?_, ?_⟩⟩, fun n c h => by cases h⟩
 ·have h1 := h.cell (j := i * 2) (by rw [flat_length]; omega)
  have h2 := flat_fst l i hi
  rw [List.getElem?_eq_getElem (by rw [flat_length]; omega)] at h2
  rw [Nat.zero_add, h1, h2]
 ·have h1 := h.cell (j := i * 2 + 1) (by rw [flat_length]; omega)
  have h2 := flat_snd l i hi
  rw [List.getElem?_eq_getElem (by rw [flat_length]; omega)] at h2
  rw [Nat.zero_add, h1, h2]
theorem flat_one (l : PL) : ∀ u ∈ flat l, u.oneCell' = true := by
 intro u hu
 unfold flat at hu
 rw [List.mem_flatMap] at hu
 obtain ⟨p, _, hp⟩ := hu
 simp only [List.mem_cons, List.not_mem_nil, or_false] at hp
 rcases hp with rfl | rfl <;> rfl
theorem bel_add' {B : Nat} {a b c : World} (h : Below B a b) (k : Below b.heap.size b c) (hB : B ≤ b.heap.size) : Below B a c := h.trans (k.mono hB)
end Go.Proofs.YtpbaobmegomfpabGreatDoor
namespace Go.Proofs.YtpbaobmegomfpabGreatDoor
open Go.RowKit
structure Ses (w : World) (B b o : Nat) (s : Sess) (v1 v2 v3 v4 : Value) : Prop where
 c0 : w.cell? ⟨b, o, none⟩ = some (.int .i64 s.st)
 c1 : w.cell? ⟨b, o + 1, none⟩ = some v1
 c2 : w.cell? ⟨b, o + 2, none⟩ = some v2
 c3 : w.cell? ⟨b, o + 3, none⟩ = some v3
 c4 : w.cell? ⟨b, o + 4, none⟩ = some v4
 l1 : Lst w B v1 s.set
 l2 : Lst w B v2 s.prep
 l3 : Lst w B v3 s.sav
 l4 : Lst w B v4 s.wr
theorem Ses.keep {w w' : World} {B B' b o : Nat} {s : Sess} {v1 v2 v3 v4 : Value} (h : Ses w B b o s v1 v2 v3 v4) (hb : b < B) (hB : B ≤ B') (hk : ∀ p : Addr, p.block < B → w'.cell? p = w.cell? p) : Ses w' B' b o s v1 v2 v3 v4 :=
 ⟨(hk _ hb).trans h.c0, (hk _ hb).trans h.c1, (hk _ hb).trans h.c2, (hk _ hb).trans h.c3, (hk _ hb).trans h.c4, h.l1.keep hB hk, h.l2.keep hB hk, h.l3.keep hB hk, h.l4.keep hB hk⟩
structure Sss (w : World) (B : Nat) (v : Value) (ss : List Sess) : Prop where
 form : ∃ A c, v = .slice A ss.length c ∧ ss.length ≤ c
 bytes : ss.length * 104 ≤ 140737488351232
 cells : 0 < ss.length → ∃ b off c, v = .slice (some ⟨b, off, none⟩) ss.length c ∧ b < B ∧
  ∀ i (h : i < ss.length), ∃ v1 v2 v3 v4, Ses w B b (off + i * 5) ss[i] v1 v2 v3 v4
theorem Sss.keep {w w' : World} {B B' : Nat} {v : Value} {ss : List Sess} (h : Sss w B v ss) (hB : B ≤ B') (hk : ∀ p : Addr, p.block < B → w'.cell? p = w.cell? p) : Sss w' B' v ss := by
 refine ⟨h.form, h.bytes, fun hn => ?_⟩
 obtain ⟨b, off, c, e, hb, hc⟩ := h.cells hn
 refine ⟨b, off, c, e, by omega, fun i hi => ?_⟩
 obtain ⟨v1, v2, v3, v4, hs⟩ := hc i hi
 exact ⟨v1, v2, v3, v4, hs.keep hb hB hk⟩
theorem Sss.below {w w' : World} {B : Nat} {v : Value} {l : List Sess} (h : Sss w B v l) (hb : Below B w w') : Sss w' B v l := h.keep (nL _) fun _ hp => hb.cell hp
theorem Sss.more {w : World} {B B' : Nat} {v : Value} {l : List Sess} (h : Sss w B v l) (hB : B ≤ B') : Sss w B' v l := h.keep hB fun _ _ => rfl
theorem Sss.alloc {w : World} {B : Nat} {v : Value} {l : List Sess} (h : Sss w B v l) (hB : B ≤ w.heap.size) (o : Obj) : Sss (w.alloc o) B v l := h.keep (nL _) fun p hp => World.cell?_alloc_lt w o p (by omega)
theorem Sss.pt {w : World} {B n c : Nat} {A : Option Addr} {ss : List Sess} (h : Sss w B (.slice A n c) ss) {k : Nat} (hk : k < ss.length) :
  ∃ b off v1 v2 v3 v4, A = some ⟨b, off, none⟩ ∧ b < B ∧ Ses w B b (off + k * 5) ss[k] v1 v2 v3 v4 := by
 obtain ⟨b, off, c', e, hb, hc⟩ := h.cells (by omega)
 injection e with e1 e2 e3
 obtain ⟨v1, v2, v3, v4, hs⟩ := hc k hk
 exact ⟨b, off, v1, v2, v3, v4, e1, hb, hs⟩
structure Wld (w : World) (B : Nat) (r s : Value) (W : Wd) : Prop where
 rows : Lst w B r W.rows
 sess : Sss w B s W.ss
theorem Wld.keep {w w' : World} {B B' : Nat} {r s : Value} {W : Wd} (h : Wld w B r s W) (hB : B ≤ B') (hk : ∀ p : Addr, p.block < B → w'.cell? p = w.cell? p) : Wld w' B' r s W := ⟨h.rows.keep hB hk, h.sess.keep hB hk⟩
theorem Wld.below {w w' : World} {B : Nat} {r s : Value} {W : Wd} (h : Wld w B r s W) (hb : Below B w w') : Wld w' B r s W := h.keep (nL _) fun _ hp => hb.cell hp
theorem Wld.more {w : World} {B B' : Nat} {r s : Value} {W : Wd} (h : Wld w B r s W) (hB : B ≤ B') : Wld w B' r s W := h.keep hB fun _ _ => rfl
theorem Wld.step {w w' : World} {r s : Value} {W : Wd} (h : Wld w w.heap.size r s W) (hb : Below w.heap.size w w') : Wld w' w'.heap.size r s W := (h.below hb).more hb.size
theorem Lst.step {w w' : World} {v : Value} {l : PL} (h : Lst w w.heap.size v l) (hb : Below w.heap.size w w') : Lst w' w'.heap.size v l := (h.below hb).more hb.size
theorem Sss.step {w w' : World} {v : Value} {l : List Sess} (h : Sss w w.heap.size v l) (hb : Below w.heap.size w w') : Sss w' w'.heap.size v l := (h.below hb).more hb.size
def sl (g n : Nat) : Value := .slice (some ⟨g, 0, none⟩) n n
def set5 (w : World) (S o : Nat) (a0 a1 a2 a3 a4 : Value) : World :=
 ((((w.setCell ⟨S, o, none⟩ a0).setCell ⟨S, o + 1, none⟩ a1).setCell ⟨S, o + 2, none⟩ a2).setCell ⟨S, o + 3, none⟩ a3).setCell ⟨S, o + 4, none⟩ a4
theorem cell_put {w : World} {g t n : Nat} {xs : List Value} (h : RowTo w g t n xs) {j : Nat} (hj : j < n) (u : Value) : (w.setCell ⟨g, j, none⟩ u).cell? ⟨g, j, none⟩ = some u := by
 obtain ⟨x, hx⟩ := h.any hj
 simp [go_sem, hx]
theorem cell_off {w : World} {g j i : Nat} (u : Value) (h : i ≠ j) : (w.setCell ⟨g, j, none⟩ u).cell? ⟨g, i, none⟩ = w.cell? ⟨g, i, none⟩ :=
 World.cell?_setCell_other _ _ _ _ (fun e => h (by injection e with e1 e2; exact e2.symm))
theorem RowTo.nil {w : World} {g t n : Nat} {xs : List Value} (h : RowTo w g t n xs) : RowTo w g t n [] := h.front 0
theorem RowTo.hit {w : World} {g t n j : Nat} (h : RowTo w g t n []) (u : Value) : RowTo (w.setCell ⟨g, j, none⟩ u) g t n [] := by
 obtain ⟨cur, hh, hs, hx⟩ := h
 refine ⟨cur.setIfInBounds j u, ?_, by simpa using hs, rfl⟩
 simp [World.setCell, Array.getElem?_modify, hh]
section
variable {w : World} {S o t n : Nat} {a0 a1 a2 a3 a4 : Value}
theorem set5_row (h : RowTo w S t n []) : RowTo (set5 w S o a0 a1 a2 a3 a4) S t n [] := ((((h.hit _).hit _).hit _).hit _).hit _
theorem set5_other {g t n : Nat} {xs : List Value} (h : RowTo w g t n xs) (hne : S ≠ g) : RowTo (set5 w S o a0 a1 a2 a3 a4) g t n xs := ((((h.other hne _).other hne _).other hne _).other hne _).other hne _
theorem set5_cells (h : RowTo w S t n []) (ho : o + 4 < n) : (set5 w S o a0 a1 a2 a3 a4).cell? ⟨S, o, none⟩ = some a0 ∧ (set5 w S o a0 a1 a2 a3 a4).cell? ⟨S, o + 1, none⟩ = some a1 ∧ (set5 w S o a0 a1 a2 a3 a4).cell? ⟨S, o + 2, none⟩ = some a2 ∧
  (set5 w S o a0 a1 a2 a3 a4).cell? ⟨S, o + 3, none⟩ = some a3 ∧ (set5 w S o a0 a1 a2 a3 a4).cell? ⟨S, o + 4, none⟩ = some a4 := by
 unfold set5
 refine ⟨?_, ?_, ?_, ?_, cell_put (xs := []) ((((h.hit _).hit _).hit _).hit _) (by omega) _⟩
 ·rw [cell_off _ (by omega), cell_off _ (by omega), cell_off _ (by omega), cell_off _ (by omega)]; exact cell_put h (by omega) _
 ·rw [cell_off _ (by omega), cell_off _ (by omega), cell_off _ (by omega)]; exact cell_put (h.hit _) (by omega) _
 ·rw [cell_off _ (by omega), cell_off _ (by omega)]; exact cell_put ((h.hit _).hit _) (by omega) _
 ·rw [cell_off _ (by omega)]; exact cell_put (((h.hit _).hit _).hit _) (by omega) _
theorem set5_off {i : Nat} (h : i < o ∨ o + 4 < i) : (set5 w S o a0 a1 a2 a3 a4).cell? ⟨S, i, none⟩ = w.cell? ⟨S, i, none⟩ := by
 unfold set5
 rw [cell_off _ (by omega), cell_off _ (by omega), cell_off _ (by omega), cell_off _ (by omega), cell_off _ (by omega)]
theorem set5_below {B : Nat} {a : World} (h : Below B a w) (hS : B ≤ S) : Below B a (set5 w S o a0 a1 a2 a3 a4) := ((((h.setCell hS _).setCell hS _).setCell hS _).setCell hS _).setCell hS _
theorem set5_cell {p : Addr} (h : p.block ≠ S) : (set5 w S o a0 a1 a2 a3 a4).cell? p = w.cell? p := by
 unfold set5
 rw [World.cell?_setCell_other _ _ _ _ (fun e => h (by rw [← e])), World.cell?_setCell_other _ _ _ _ (fun e => h (by rw [← e])), World.cell?_setCell_other _ _ _ _ (fun e => h (by rw [← e])), World.cell?_setCell_other _ _ _ _ (fun e => h (by rw [← e])), World.cell?_setCell_other _ _ _ _ (fun e => h (by rw [← e]))]
end
def Sess.li (s : Sess) : Nat → PL
 | 0 => s.set
 | 1 => s.prep
 | 2 => s.sav
 | _ => s.wr
structure OwnS (w : World) (base S n : Nat) (G : Nat → Nat → Nat) (ss : List Sess) (k : Nat) : Prop where
 blk : RowTo w S 115 (n * 5) []
 st : ∀ i (h : i < ss.length), i < k → w.cell? ⟨S, i * 5, none⟩ = some (.int .i64 ss[i].st)
 cs : ∀ i j (h : i < ss.length), i < k → j < 4 → w.cell? ⟨S, i * 5 + (j + 1), none⟩ = some (sl (G i j) (ss[i].li j).length)
 ls : ∀ i j (h : i < ss.length), i < k → j < 4 → RowTo w (G i j) 60 ((ss[i].li j).length * 2) (flat (ss[i].li j))
 lo : ∀ i j, i < k → j < 4 → base ≤ G i j
 ne : ∀ i j, i < k → j < 4 → G i j ≠ S
 inj : ∀ i j i' j', i < k → j < 4 → i' < k → j' < 4 → G i j = G i' j' → i = i' ∧ j = j'
def pick4 (g0 g1 g2 g3 : Nat) : Nat → Nat
 | 0 => g0
 | 1 => g1
 | 2 => g2
 | _ => g3
theorem j4 {j : Nat} (h : j < 4) : j = 0 ∨ j = 1 ∨ j = 2 ∨ j = 3 := by omega
theorem OwnS.step {wr w3 : World} {base S n k : Nat} {G : Nat → Nat → Nat} {ss : List Sess} (h : OwnS wr base S n G ss k) (hk : k < ss.length) (hn : ss.length = n) (hb : base ≤ wr.heap.size) (kb : Below wr.heap.size wr w3) {g0 g1 g2 g3 : Nat}
  (r0 : RowTo w3 g0 60 (ss[k].set.length * 2) (flat ss[k].set)) (r1 : RowTo w3 g1 60 (ss[k].prep.length * 2) (flat ss[k].prep))
  (r2 : RowTo w3 g2 60 (ss[k].sav.length * 2) (flat ss[k].sav)) (r3 : RowTo w3 g3 60 (ss[k].wr.length * 2) (flat ss[k].wr))
  (q0 : wr.heap.size ≤ g0) (q1 : g0 < g1) (q2 : g1 < g2) (q3 : g2 < g3) :
  OwnS (set5 w3 S (k * 5) (.int .i64 ss[k].st) (sl g0 ss[k].set.length) (sl g1 ss[k].prep.length) (sl g2 ss[k].sav.length) (sl g3 ss[k].wr.length)) base S n (fun i j => if i = k then pick4 g0 g1 g2 g3 j else G i j) ss (k + 1) := by
 have hS := h.blk.lt
 have b3 : RowTo w3 S 115 (n * 5) [] := h.blk.below kb hS
 have hc := set5_cells (a0 := .int .i64 ss[k].st) (a1 := sl g0 ss[k].set.length) (a2 := sl g1 ss[k].prep.length) (a3 := sl g2 ss[k].sav.length) (a4 := sl g3 ss[k].wr.length) b3 (o := k * 5) (by omega)
 refine ⟨set5_row b3, fun i hi hik => ?_, fun i j hi hik hj => ?_, fun i j hi hik hj => ?_, fun i j hik hj => ?_, fun i j hik hj => ?_, fun i j i' j' hik hj hik' hj' e => ?_⟩
 ·by_cases e : i = k
  ·subst e; exact hc.1
  ·rw [set5_off (by omega), kb.cell (p := ⟨S, i * 5, none⟩) hS]; exact h.st i hi (by omega)
 ·by_cases e : i = k
  ·subst e
   simp only [if_pos]
   rcases j4 hj with rfl | rfl | rfl | rfl
   ·exact hc.2.1
   ·exact hc.2.2.1
   ·exact hc.2.2.2.1
   ·exact hc.2.2.2.2
  ·simp only [if_neg e]
   rw [set5_off (by omega), kb.cell (p := ⟨S, i * 5 + (j + 1), none⟩) hS]; exact h.cs i j hi (by omega) hj
 ·by_cases e : i = k
  ·subst e
   simp only [if_pos]
   rcases j4 hj with rfl | rfl | rfl | rfl
   ·exact set5_other r0 (by show S ≠ g0; omega)
   ·exact set5_other r1 (by show S ≠ g1; omega)
   ·exact set5_other r2 (by show S ≠ g2; omega)
   ·exact set5_other r3 (by show S ≠ g3; omega)
  ·simp only [if_neg e]
   have h1 := h.ls i j hi (by omega) hj
   exact set5_other (h1.below kb h1.lt) (fun e' => h.ne i j (by omega) hj e'.symm)
 ·by_cases e : i = k
  ·simp only [if_pos e]; rcases j4 hj with rfl | rfl | rfl | rfl <;> simp only [pick4] <;> omega
  ·simp only [if_neg e]; exact h.lo i j (by omega) hj
 ·by_cases e : i = k
  ·simp only [if_pos e]; rcases j4 hj with rfl | rfl | rfl | rfl <;> simp only [pick4] <;> omega
  ·simp only [if_neg e]; exact h.ne i j (by omega) hj
 ·have old : ∀ a b, a < k → b < 4 → G a b < wr.heap.size := fun a b ha hb => (h.ls a b (by omega) ha hb).lt
  by_cases e1 : i = k <;> by_cases e2 : i' = k
  ·simp only [if_pos e1, if_pos e2] at e
   refine ⟨by omega, ?_⟩
   rcases j4 hj with rfl | rfl | rfl | rfl <;> rcases j4 hj' with rfl | rfl | rfl | rfl <;> simp only [pick4] at e <;> omega
  ·simp only [if_pos e1, if_neg e2] at e
   have := old i' j' (by omega) hj'
   rcases j4 hj with rfl | rfl | rfl | rfl <;> simp only [pick4] at e <;> omega
  ·simp only [if_neg e1, if_pos e2] at e
   have := old i j (by omega) hj
   rcases j4 hj' with rfl | rfl | rfl | rfl <;> simp only [pick4] at e <;> omega
  ·simp only [if_neg e1, if_neg e2] at e
   exact h.inj i j i' j' (by omega) hj (by omega) hj' e
theorem OwnS.kept {w w' : World} {base S n k : Nat} {G : Nat → Nat → Nat} {ss : List Sess} (h : OwnS w base S n G ss k) (hk : k ≤ ss.length) (kb : Below w.heap.size w w') : OwnS w' base S n G ss k := by
 have hS := h.blk.lt
 refine ⟨h.blk.below kb hS, fun i hi hik => (kb.cell (p := ⟨S, i * 5, none⟩) hS).trans (h.st i hi hik), fun i j hi hik hj => (kb.cell (p := ⟨S, i * 5 + (j + 1), none⟩) hS).trans (h.cs i j hi hik hj), fun i j hi hik hj => ?_, h.lo, h.ne, h.inj⟩
 have := h.ls i j hi hik hj
 exact this.below kb this.lt
end Go.Proofs.YtpbaobmegomfpabGreatDoor
