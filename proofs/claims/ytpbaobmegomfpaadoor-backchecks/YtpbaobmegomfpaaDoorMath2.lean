/-
  Plain mathematics of statements as texts: nothing of the program is imported.
-/
import Derived.WalkKit
import Derived.Lib.Bytealg
import Derived.Test.YtpbaobmegomfpaaDoorMath
namespace Go.Proofs.YtpbaobmegomfpaaDoor
open Go.RowKit

/-- the place of the first blank; the length where there is none -/
def blank : List UInt8 → Nat
  | [] => 0
  | c :: l => if c == 32 then 0 else blank l + 1
theorem blank_le (l : List UInt8) : blank l ≤ l.length := by
  induction l with
  | nil => exact Nat.le_refl _
  | cons c l ih => unfold blank; split <;> simp <;> omega
theorem blank_hit : ∀ {l : List UInt8} {k : Nat} (hk : k < l.length), l[k] = 32 → (∀ j (hj : j < l.length), j < k → l[j] ≠ 32) → blank l = k
  | [], k, hk, _, _ => by simp at hk
  | c :: l, 0, _, h, _ => by simp only [List.getElem_cons_zero] at h; unfold blank; rw [h]; rfl
  | c :: l, k + 1, hk, h, hn => by
    have h0 := hn 0 (by simp) (by omega)
    simp only [List.getElem_cons_zero] at h0
    unfold blank
    rw [if_neg (by simpa using h0), blank_hit (k := k) (by simpa using hk) (by simpa using h) (fun j hj hjk => hn (j + 1) (by simpa using hj) (by omega))]
theorem blank_miss : ∀ {l : List UInt8}, (∀ j (hj : j < l.length), l[j] ≠ 32) → blank l = l.length
  | [], _ => rfl
  | c :: l, hn => by
    have h0 := hn 0 (by simp)
    simp only [List.getElem_cons_zero] at h0
    unfold blank
    rw [if_neg (by simpa using h0), blank_miss (fun j hj => hn (j + 1) (by simpa using hj))]
    rfl
theorem blank_index (l : List UInt8) : Lib.indexByte l 32 = if blank l < l.length then (blank l : Int) else -1 := by
  induction l with
  | nil => rfl
  | cons c l ih =>
    by_cases h : (c == 32) = true
    · have e1 : Lib.indexByte (c :: l) 32 = 0 := by unfold Lib.indexByte; rw [if_pos h]
      have e2 : blank (c :: l) = 0 := by unfold blank; rw [if_pos h]
      rw [e1, e2, if_pos (by simp)]; rfl
    · have e1 : Lib.indexByte (c :: l) 32 = if Lib.indexByte l 32 == -1 then -1 else Lib.indexByte l 32 + 1 := by rw [Lib.indexByte, if_neg h]
      have e2 : blank (c :: l) = blank l + 1 := by rw [blank, if_neg h]
      by_cases hb : blank l < l.length
      · have ih' : Lib.indexByte l 32 = (blank l : Int) := by rw [ih, if_pos hb]
        rw [e1, ih', e2, List.length_cons, if_neg (by simp), if_pos (by omega)]; rfl
      · have ih' : Lib.indexByte l 32 = -1 := by rw [ih, if_neg hb]
        rw [e1, ih', e2, List.length_cons, if_pos (by rfl), if_neg (by omega)]

def cutI (s : ByteArray) : Nat := blank s.data.toList
def cutA (s : ByteArray) : ByteArray := s.extract 0 (cutI s)
def cutB (s : ByteArray) : ByteArray := s.extract (cutI s + 1) s.size
def cutF (s : ByteArray) : Bool := decide (cutI s < s.size)
theorem cutI_le (s : ByteArray) : cutI s ≤ s.size := by have := blank_le s.data.toList; simpa [cutI] using this
theorem cutI_hit {s : ByteArray} {k : Nat} (hk : k < s.size) (h : s[k] = 32) (hn : ∀ j (hj : j < s.size), j < k → s[j] ≠ 32) : cutI s = k :=
  blank_hit (by simpa using hk) h (fun j hj => hn j (by simpa using hj))
theorem cutI_miss {s : ByteArray} (hn : ∀ j (hj : j < s.size), s[j] ≠ 32) : cutI s = s.size := by
  unfold cutI; rw [blank_miss (fun j hj => hn j (by simpa using hj))]; simp
theorem cutI_index (s : ByteArray) : Lib.indexByte s.data.toList 32 = if cutF s then (cutI s : Int) else -1 := by
  rw [blank_index]; unfold cutF cutI; simp only [decide_eq_true_eq, Array.length_toList]; rfl
theorem cutA_all {s : ByteArray} (h : cutI s = s.size) : cutA s = s := by
  unfold cutA; rw [h]; apply ba_ext; simp
theorem cutB_none {s : ByteArray} (h : cutI s = s.size) : cutB s = ⟨#[]⟩ := by
  unfold cutB; rw [h]; apply ba_ext; simp
theorem cutA_size (s : ByteArray) : (cutA s).size = cutI s := by
  unfold cutA; rw [ByteArray.size_extract]; have := cutI_le s; omega
theorem cutB_size (s : ByteArray) : (cutB s).size = s.size - (cutI s + 1) := by
  unfold cutB; rw [ByteArray.size_extract]; omega

/-- the words of the statements, by their kinds -/
def wordL : Nat → List UInt8
  | 1 => [98, 101, 103, 105, 110]
  | 2 => [99, 111, 109, 109, 105, 116]
  | 3 => [114, 111, 108, 108, 98, 97, 99, 107]
  | 4 => [114, 101, 115, 101, 116]
  | 5 => [102, 97, 105, 108]
  | 6 => [103, 101, 116]
  | 7 => [114, 101, 97, 100]
  | 8 => [101, 120, 101, 99]
  | 9 => [115, 101, 116]
  | 10 => [112, 117, 116]
  | 11 => [112, 114, 101, 112]
  | _ => []
def wordAt (k : Nat) : ByteArray := ⟨(wordL k).toArray⟩
theorem wordAt_toList (k : Nat) : (wordAt k).data.toList = wordL k := by simp [wordAt]
def kindL (l : List UInt8) : Nat := ((List.range 12).find? fun k => decide (1 ≤ k) && (wordL k == l)).getD 0
/-- the kind with this word; 0: there is none -/
def kindN (s : ByteArray) : Nat := kindL s.data.toList
theorem kindL_word : ∀ k, k ≤ 11 → 1 ≤ k → kindL (wordL k) = k := by decide
theorem kindN_hit {s : ByteArray} {k : Nat} (h1 : 1 ≤ k) (h2 : k ≤ 11) (h : wordL k = s.data.toList) : kindN s = k := by
  unfold kindN; rw [← h]; exact kindL_word k h2 h1
theorem kindN_none {s : ByteArray} (h : ∀ k, 1 ≤ k → k ≤ 11 → wordL k ≠ s.data.toList) : kindN s = 0 := by
  unfold kindN kindL
  rw [List.find?_eq_none.2]
  · rfl
  · intro k hk
    simp only [List.mem_range] at hk
    simp only [Bool.and_eq_true, decide_eq_true_eq, beq_iff_eq, not_and]
    exact fun h1 => h k h1 (by omega)
theorem kindN_le (s : ByteArray) : kindN s ≤ 11 := by
  unfold kindN kindL
  cases hf : (List.range 12).find? fun k => decide (1 ≤ k) && (wordL k == s.data.toList) with
  | none => simp
  | some k =>
    have := List.mem_of_find?_eq_some hf
    simp only [List.mem_range] at this
    simp; omega
theorem kindN_word {s : ByteArray} (h : 1 ≤ kindN s) : wordL (kindN s) = s.data.toList := by
  unfold kindN kindL at h ⊢
  cases hf : (List.range 12).find? fun k => decide (1 ≤ k) && (wordL k == s.data.toList) with
  | none => rw [hf] at h; simp at h
  | some k =>
    have := List.find?_some hf
    simp only [Bool.and_eq_true, decide_eq_true_eq, beq_iff_eq] at this
    simp [this.2]

/-- a blank is followed by an empty Key or Value -/
def splitBad (t : ByteArray) : Bool := (cutF t && (cutA (cutB t)).toList.isEmpty) || (cutF (cutB t) && (cutB (cutB t)).toList.isEmpty)

/-- what is wrong with a text, but for what Check asks -/
def splitE (t : ByteArray) : Int := if kindN (cutA t) = 0 then 3 else if splitBad t = true then 4 else 0
theorem splitE_ok {t : ByteArray} (h : splitE t = 0) : kindN (cutA t) ≠ 0 ∧ splitBad t = false := by
  unfold splitE at h
  split at h
  · omega
  · rename_i h0
    split at h
    · omega
    · rename_i h1; exact ⟨h0, by simpa using h1⟩
theorem splitE_kind {t : ByteArray} (h : kindN (cutA t) = 0) : splitE t = 3 := by unfold splitE; rw [if_pos h]
theorem splitE_form {t : ByteArray} (h : kindN (cutA t) ≠ 0) (hb : splitBad t = true) : splitE t = 4 := by unfold splitE; rw [if_neg h, if_pos hb]
theorem splitE_bad {t : ByteArray} (h : kindN (cutA t) ≠ 0) (he : splitE t ≠ 0) : splitBad t = true := by
  unfold splitE at he
  rw [if_neg h] at he
  cases hb : splitBad t
  · rw [hb] at he; simp at he
  · rfl
theorem cutF_none {t : ByteArray} (h : cutF t = false) : cutF (cutB t) = false := by
  have := cutB_size t
  unfold cutF at h ⊢
  simp only [decide_eq_false_iff_not] at h ⊢
  omega

/-- the Value of a statement that prepares nothing -/
def plainV (k : Int) (v : ByteArray) : Bool := if k = 9 ∨ k = 10 then bndB 33 126 20 v else v.toList.isEmpty
theorem plainV_yes {k : Int} {v : ByteArray} (h : k = 9 ∨ k = 10) : plainV k v = bndB 33 126 20 v := by unfold plainV; rw [if_pos h]
theorem plainV_no {k : Int} {v : ByteArray} (h : ¬ (k = 9 ∨ k = 10)) : plainV k v = v.toList.isEmpty := by unfold plainV; rw [if_neg h]
/-- the Key of a statement -/
def keyB (k : Int) (key : ByteArray) : Bool := if 6 ≤ k ∧ k ≤ 11 then bndB 97 122 8 key else key.toList.isEmpty
theorem keyB_yes {k : Int} {v : ByteArray} (h : 6 ≤ k ∧ k ≤ 11) : keyB k v = bndB 97 122 8 v := by unfold keyB; rw [if_pos h]
theorem keyB_no {k : Int} {v : ByteArray} (h : ¬ (6 ≤ k ∧ k ≤ 11)) : keyB k v = v.toList.isEmpty := by unfold keyB; rw [if_neg h]
/-- the text of a Get, a Read or a Put -/
def prepB (t : ByteArray) : Bool := decide (splitE t = 0) && (decide (kindN (cutA t) = 6 ∨ kindN (cutA t) = 7 ∨ kindN (cutA t) = 10) && (bndB 97 122 8 (cutA (cutB t)) && plainV (kindN (cutA t)) (cutB (cutB t))))
theorem prepB_split {t : ByteArray} (h : splitE t ≠ 0) : prepB t = false := by unfold prepB; rw [decide_eq_false h, Bool.false_and]
theorem prepB_kind {t : ByteArray} (h : ¬ (kindN (cutA t) = 6 ∨ kindN (cutA t) = 7 ∨ kindN (cutA t) = 10)) : prepB t = false := by unfold prepB; rw [decide_eq_false h]; simp
theorem prepB_rest {t : ByteArray} (h : splitE t = 0) (hk : kindN (cutA t) = 6 ∨ kindN (cutA t) = 7 ∨ kindN (cutA t) = 10) :
    prepB t = (bndB 97 122 8 (cutA (cutB t)) && plainV (kindN (cutA t)) (cutB (cutB t))) := by unfold prepB; rw [decide_eq_true h, decide_eq_true hk, Bool.true_and, Bool.true_and]
/-- the Value of a statement -/
def valueB (k : Int) (v : ByteArray) : Bool := if k = 11 then prepB v else plainV k v
/-- what Check finds -/
def checkE (k : Int) (key v : ByteArray) : Int := if k < 1 ∨ 11 < k then 3 else if (keyB k key && valueB k v) = true then 0 else 4
theorem checkE_kind {k : Int} {key v : ByteArray} (h : k < 1 ∨ 11 < k) : checkE k key v = 3 := by unfold checkE; rw [if_pos h]
theorem checkE_ok {k : Int} {key v : ByteArray} (h : ¬ (k < 1 ∨ 11 < k)) (h1 : keyB k key = true) (h2 : valueB k v = true) : checkE k key v = 0 := by unfold checkE; rw [if_neg h, h1, h2]; rfl
theorem checkE_key {k : Int} {key v : ByteArray} (h : ¬ (k < 1 ∨ 11 < k)) (h1 : keyB k key = false) : checkE k key v = 4 := by unfold checkE; rw [if_neg h, h1]; rfl
theorem checkE_value {k : Int} {key v : ByteArray} (h : ¬ (k < 1 ∨ 11 < k)) (h2 : valueB k v = false) : checkE k key v = 4 := by unfold checkE; rw [if_neg h, h2]; simp

/-- what Read finds -/
def readE (t : ByteArray) : Int := if 60 < t.size then 1 else if splitE t = 0 then checkE (kindN (cutA t)) (cutA (cutB t)) (cutB (cutB t)) else splitE t
theorem readE_long {t : ByteArray} (h : 60 < t.size) : readE t = 1 := by unfold readE; rw [if_pos h]
theorem readE_split {t : ByteArray} (h : ¬ 60 < t.size) (h1 : splitE t ≠ 0) : readE t = splitE t := by unfold readE; rw [if_neg h, if_neg h1]
theorem readE_check {t : ByteArray} (h : ¬ 60 < t.size) (h1 : splitE t = 0) : readE t = checkE (kindN (cutA t)) (cutA (cutB t)) (cutB (cutB t)) := by unfold readE; rw [if_neg h, if_pos h1]
theorem isEmpty_size {s : ByteArray} (h : s.toList.isEmpty = true) : s.size = 0 := by
  rw [Lib.toList_data, List.isEmpty_iff] at h
  have e : s.size = s.data.toList.length := by simp
  rw [e, h]; rfl
theorem bndB_size {lo hi lim : Nat} {s : ByteArray} (h : bndB lo hi lim s = true) : 1 ≤ s.size ∧ s.size ≤ lim := by
  unfold bndB at h
  simp only [Bool.and_eq_true, decide_eq_true_eq] at h
  exact h.1
theorem wordL_len : ∀ k, k ≤ 11 → (wordL k).length ≤ 8 := by decide
theorem cut_total (t : ByteArray) : t.size ≤ (cutA t).size + 1 + (cutB t).size := by
  have := cutA_size t
  have := cutB_size t
  have := cutI_le t
  omega
theorem kind_size {t : ByteArray} (h : kindN (cutA t) ≠ 0) : (cutA t).size ≤ 8 := by
  have h1 := kindN_word (s := cutA t) (by omega)
  have h2 := wordL_len (kindN (cutA t)) (kindN_le _)
  rw [h1] at h2
  simpa using h2
theorem plainV_size {k : Int} {v : ByteArray} (h : plainV k v = true) : v.size ≤ 20 := by
  unfold plainV at h
  split at h
  · exact (bndB_size h).2
  · have := isEmpty_size h; omega
theorem prepB_read (t : ByteArray) : prepB t = (decide (readE t = 0) && decide (kindN (cutA t) = 6 ∨ kindN (cutA t) = 7 ∨ kindN (cutA t) = 10)) := by
  by_cases hk : kindN (cutA t) = 6 ∨ kindN (cutA t) = 7 ∨ kindN (cutA t) = 10
  · rw [decide_eq_true hk, Bool.and_true]
    by_cases h : splitE t = 0
    · rw [prepB_rest h hk]
      have hkb : keyB (kindN (cutA t)) (cutA (cutB t)) = bndB 97 122 8 (cutA (cutB t)) := keyB_yes (by omega)
      have hvb : valueB (kindN (cutA t)) (cutB (cutB t)) = plainV (kindN (cutA t)) (cutB (cutB t)) := by unfold valueB; rw [if_neg (by omega)]
      have hk1 : ¬ ((kindN (cutA t) : Int) < 1 ∨ 11 < (kindN (cutA t) : Int)) := by omega
      cases h1 : bndB 97 122 8 (cutA (cutB t))
      · by_cases hl : 60 < t.size
        · rw [readE_long hl]; rfl
        · rw [readE_check hl h, checkE_key hk1 (hkb.trans h1)]; rfl
      · cases h2 : plainV (kindN (cutA t)) (cutB (cutB t))
        · by_cases hl : 60 < t.size
          · rw [readE_long hl]; rfl
          · rw [readE_check hl h, checkE_value hk1 (hvb.trans h2)]; rfl
        · have hl : ¬ 60 < t.size := by
            have a1 := cut_total t
            have a2 := cut_total (cutB t)
            have a3 := kind_size (t := t) (by omega)
            have a4 := bndB_size h1
            have a5 := plainV_size h2
            omega
          rw [readE_check hl h, checkE_ok hk1 (hkb.trans h1) (hvb.trans h2)]; rfl
    · rw [prepB_split h]
      by_cases hl : 60 < t.size
      · rw [readE_long hl]; rfl
      · rw [readE_split hl h, decide_eq_false h]
  · rw [prepB_kind hk, decide_eq_false hk, Bool.and_false]

/-- the kind, where it is less than k -/
def kindBefore (k : Nat) (s : ByteArray) : Nat := if kindN s < k then kindN s else 0
theorem kindBefore_hit {k : Nat} {s : ByteArray} (h : kindN s = k) : kindBefore (k + 1) s = k := by unfold kindBefore; rw [if_pos (by omega), h]
theorem kindBefore_miss {k : Nat} {s : ByteArray} (h : kindN s ≠ k) : kindBefore (k + 1) s = kindBefore k s := by
  unfold kindBefore
  by_cases h1 : kindN s < k
  · rw [if_pos h1, if_pos (by omega)]
  · rw [if_neg h1, if_neg (by omega)]
theorem kindBefore_one (s : ByteArray) : kindBefore 1 s = 0 := by
  unfold kindBefore; split <;> omega
theorem kindBefore_all (s : ByteArray) : kindBefore 12 s = kindN s := by
  unfold kindBefore; rw [if_pos (by have := kindN_le s; omega)]
theorem kindN_word_iff {s : ByteArray} {k : Nat} (h1 : 1 ≤ k) (h2 : k ≤ 11) : kindN s = k ↔ wordL k = s.data.toList :=
  ⟨fun h => by rw [← h]; exact kindN_word (by omega), fun h => kindN_hit h1 h2 h⟩

theorem cutF_parts {t : ByteArray} (h : cutF t = false) : cutA (cutB t) = ⟨#[]⟩ ∧ cutB (cutB t) = ⟨#[]⟩ := by
  have h0 : cutI t = t.size := by
    have := cutI_le t
    unfold cutF at h
    simp only [decide_eq_false_iff_not] at h
    omega
  rw [cutB_none h0]
  exact ⟨rfl, rfl⟩
theorem splitBad_none {t : ByteArray} (h : cutF t = false) : splitBad t = false := by
  unfold splitBad; rw [h, cutF_none h]; rfl
theorem splitE_zero {t : ByteArray} (h : kindN (cutA t) ≠ 0) (hb : splitBad t = false) : splitE t = 0 := by
  unfold splitE; rw [if_neg h, hb]; rfl

end Go.Proofs.YtpbaobmegomfpaaDoor
