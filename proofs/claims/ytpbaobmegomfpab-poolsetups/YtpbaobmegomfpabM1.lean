/-
  Texts of the proof of PoolSetups, one behind the other: Math, Math2, Math3, BackM, BackM2, BackM3, BackMap, BackM4.
-/
import Derived.WalkKit
import Derived.Lib.Bytealg
import Derived.Maps.OwnSet
import Derived.Maps.Views
/-
  Plain mathematics of strings for the proofs of package say: nothing of the program is imported.
-/
namespace Go.Proofs.Ytpbaobmegomfpab
open Go.RowKit
set_option linter.unusedVariables false

/-- 1 to lim bytes, each from lo to hi -/
def bndB (lo hi lim : Nat) (s : ByteArray) : Bool := decide (1 ≤ s.size) && decide (s.size ≤ lim) && s.data.toList.all fun c => decide (lo ≤ c.toNat) && decide (c.toNat ≤ hi)

theorem bndB_short {lo hi lim : Nat} {s : ByteArray} (h : s.size = 0 ∨ lim < s.size) : bndB lo hi lim s = false := by
  unfold bndB
  rcases h with h | h
  · rw [decide_eq_false (by omega)]; rfl
  · rw [decide_eq_false (p := s.size ≤ lim) (by omega)]; simp

theorem bndB_bad {lo hi lim : Nat} {s : ByteArray} {k : Nat} (hk : k < s.size) (h : s[k].toNat < lo ∨ hi < s[k].toNat) : bndB lo hi lim s = false := by
  unfold bndB
  have : (s.data.toList.all fun c => decide (lo ≤ c.toNat) && decide (c.toNat ≤ hi)) = false := by
    rw [List.all_eq_false]
    refine ⟨s[k], ?_, ?_⟩
    · have : s[k] = s.data.toList[k]'(by simpa using hk) := rfl
      rw [this]; exact List.getElem_mem _
    · simp; omega
  rw [this]; simp

theorem bndB_good {lo hi lim : Nat} {s : ByteArray} (h1 : 1 ≤ s.size) (h2 : s.size ≤ lim) (h : ∀ k (hk : k < s.size), lo ≤ s[k].toNat ∧ s[k].toNat ≤ hi) : bndB lo hi lim s = true := by
  unfold bndB
  rw [decide_eq_true h1, decide_eq_true h2]
  simp only [Bool.true_and, List.all_eq_true]
  intro c hc
  obtain ⟨k, hk, rfl⟩ := List.getElem_of_mem hc
  have := h k (by simpa using hk)
  have e : s[k]'(by simpa using hk) = s.data.toList[k] := rfl
  rw [e] at this
  simpa using this

/-- a message: its kind, the length of its text, and this -/
def msg (k : UInt8) (s : ByteArray) : ByteArray := ⟨#[k, UInt8.ofNat s.size]⟩ ++ s

/-- a ≤ n ≤ b -/
def inB (a n b : Int) : Bool := decide (a ≤ n) && decide (n ≤ b)
theorem inB_yes {a n b : Int} (h : a ≤ n ∧ n ≤ b) : inB a n b = true := by simp [inB, h]
theorem inB_no {a n b : Int} (h : ¬ (a ≤ n ∧ n ≤ b)) : inB a n b = false := by
  unfold inB; by_cases h1 : a ≤ n
  · rw [decide_eq_false (p := n ≤ b) (by omega)]; simp
  · rw [decide_eq_false h1]; rfl

theorem bndB_len {lo hi lim k : Nat} {s : ByteArray} (h : ∀ j (hj : j < s.size), j < k → lo ≤ s[j].toNat ∧ s[j].toNat ≤ hi) (hk : s.size ≤ k) :
    bndB lo hi lim s = inB 1 s.size lim := by
  by_cases h1 : 1 ≤ s.size ∧ s.size ≤ lim
  · rw [bndB_good h1.1 h1.2 (fun j hj => h j hj (by omega)), inB_yes (by omega)]
  · rw [bndB_short (by omega), inB_no (by omega)]

/-- a number from 0 to m - 1 -/
def pickI (n m : Int) : Int := (if n < 0 then -(n + 1) else n) % m
theorem pickI_neg {n m : Int} (h : n < 0) : pickI n m = -(n + 1) % m := by unfold pickI; rw [if_pos h]
theorem pickI_pos {n m : Int} (h : ¬ n < 0) : pickI n m = n % m := by unfold pickI; rw [if_neg h]
theorem pickI_bd (n : Int) {m : Int} (hm : 0 < m) : 0 ≤ pickI n m ∧ pickI n m < m := ⟨Int.emod_nonneg _ (by omega), Int.emod_lt_of_pos _ hm⟩

theorem ret_int {k : IntKind} {a b : Int} (h : a = b) : Ending.returned (.int k a) = .returned (.int k b) := by rw [h]

theorem msg_size (k : UInt8) (s : ByteArray) : (msg k s).size = s.size + 2 := by
  unfold msg; rw [ByteArray.size_append]; show 2 + s.size = _; omega
theorem msg_toList (k : UInt8) (s : ByteArray) : (msg k s).data.toList = k :: UInt8.ofNat s.size :: s.data.toList := by
  unfold msg; rw [ByteArray.data_append]; simp
theorem get_toList (s : ByteArray) (i : Nat) (h : i < s.size) : s[i] = s.data.toList[i]'(by simpa using h) := rfl
theorem msgs_zero (k : UInt8) (s m : ByteArray) (h : 0 < (msg k s ++ m).size) : (msg k s ++ m)[0] = k := by
  rw [get_toList]; simp [ByteArray.data_append, msg]
theorem msgs_one (k : UInt8) (s m : ByteArray) (h : 1 < (msg k s ++ m).size) : (msg k s ++ m)[1] = UInt8.ofNat s.size := by
  rw [get_toList]; simp [ByteArray.data_append, msg]
theorem ba_ext {a b : ByteArray} (h : a.data.toList = b.data.toList) : a = b := by
  apply ByteArray.ext; exact Array.ext' h
theorem msgs_text (k : UInt8) (s m : ByteArray) : (msg k s ++ m).extract 2 (2 + s.size) = s := by
  apply ba_ext
  rw [ByteArray.data_extract, Array.toList_extract, ByteArray.data_append, Array.toList_append, msg_toList]
  simp
theorem part_size (k : UInt8) (s : ByteArray) {p : Nat} (h : p < s.size + 2) : ((msg k s).extract 0 p).size = p := by
  rw [ByteArray.size_extract, msg_size]; omega
theorem part_one (k : UInt8) (s : ByteArray) {p : Nat} (h : 1 < ((msg k s).extract 0 p).size) : ((msg k s).extract 0 p)[1] = UInt8.ofNat s.size := by
  have e : ((msg k s).extract 0 p).data.toList = (k :: UInt8.ofNat s.size :: s.data.toList).take p := by
    rw [ByteArray.data_extract, Array.toList_extract, msg_toList]; simp
  rw [get_toList]; simp only [e, List.getElem_take, List.getElem_cons_succ, List.getElem_cons_zero]

end Go.Proofs.Ytpbaobmegomfpab

/-
  Plain mathematics of statements as texts: nothing of the program is imported.
-/
namespace Go.Proofs.Ytpbaobmegomfpab
open Go.RowKit

/-- the place of the first blank; the length where there is none -/
def blank : List UInt8 → Nat
  | [] => 0
  | c :: l => if c == 32 then 0 else blank l + 1
theorem blank_le (l : List UInt8) : blank l ≤ l.length := by
  induction l with
  | nil => exact Nat.le_refl _
  | cons c l ih => unfold blank; split <;> simp <;> omega
theorem blank_hit : ∀ {l : List UInt8} {k : Nat} (hk : k < l.length), l[k] = 32 → (∀ j (hj : j < l.length), j < k → l[j] ≠ 32) → blank l = k
  | [], k, hk, _, _ => by simp at hk
  | c :: l, 0, _, h, _ => by simp only [List.getElem_cons_zero] at h; unfold blank; rw [h]; rfl
  | c :: l, k + 1, hk, h, hn => by
    have h0 := hn 0 (by simp) (by omega)
    simp only [List.getElem_cons_zero] at h0
    unfold blank
    rw [if_neg (by simpa using h0), blank_hit (k := k) (by simpa using hk) (by simpa using h) (fun j hj hjk => hn (j + 1) (by simpa using hj) (by omega))]
theorem blank_miss : ∀ {l : List UInt8}, (∀ j (hj : j < l.length), l[j] ≠ 32) → blank l = l.length
  | [], _ => rfl
  | c :: l, hn => by
    have h0 := hn 0 (by simp)
    simp only [List.getElem_cons_zero] at h0
    unfold blank
    rw [if_neg (by simpa using h0), blank_miss (fun j hj => hn (j + 1) (by simpa using hj))]
    rfl
theorem blank_index (l : List UInt8) : Lib.indexByte l 32 = if blank l < l.length then (blank l : Int) else -1 := by
  induction l with
  | nil => rfl
  | cons c l ih =>
    by_cases h : (c == 32) = true
    · have e1 : Lib.indexByte (c :: l) 32 = 0 := by unfold Lib.indexByte; rw [if_pos h]
      have e2 : blank (c :: l) = 0 := by unfold blank; rw [if_pos h]
      rw [e1, e2, if_pos (by simp)]; rfl
    · have e1 : Lib.indexByte (c :: l) 32 = if Lib.indexByte l 32 == -1 then -1 else Lib.indexByte l 32 + 1 := by rw [Lib.indexByte, if_neg h]
      have e2 : blank (c :: l) = blank l + 1 := by rw [blank, if_neg h]
      by_cases hb : blank l < l.length
      · have ih' : Lib.indexByte l 32 = (blank l : Int) := by rw [ih, if_pos hb]
        rw [e1, ih', e2, List.length_cons, if_neg (by simp), if_pos (by omega)]; rfl
      · have ih' : Lib.indexByte l 32 = -1 := by rw [ih, if_neg hb]
        rw [e1, ih', e2, List.length_cons, if_pos (by rfl), if_neg (by omega)]

def cutI (s : ByteArray) : Nat := blank s.data.toList
def cutA (s : ByteArray) : ByteArray := s.extract 0 (cutI s)
def cutB (s : ByteArray) : ByteArray := s.extract (cutI s + 1) s.size
def cutF (s : ByteArray) : Bool := decide (cutI s < s.size)
theorem cutI_le (s : ByteArray) : cutI s ≤ s.size := by have := blank_le s.data.toList; simpa [cutI] using this
theorem cutI_hit {s : ByteArray} {k : Nat} (hk : k < s.size) (h : s[k] = 32) (hn : ∀ j (hj : j < s.size), j < k → s[j] ≠ 32) : cutI s = k :=
  blank_hit (by simpa using hk) h (fun j hj => hn j (by simpa using hj))
theorem cutI_miss {s : ByteArray} (hn : ∀ j (hj : j < s.size), s[j] ≠ 32) : cutI s = s.size := by
  unfold cutI; rw [blank_miss (fun j hj => hn j (by simpa using hj))]; simp
theorem cutI_index (s : ByteArray) : Lib.indexByte s.data.toList 32 = if cutF s then (cutI s : Int) else -1 := by
  rw [blank_index]; unfold cutF cutI; simp only [decide_eq_true_eq, Array.length_toList]; rfl
theorem cutA_all {s : ByteArray} (h : cutI s = s.size) : cutA s = s := by
  unfold cutA; rw [h]; apply ba_ext; simp
theorem cutB_none {s : ByteArray} (h : cutI s = s.size) : cutB s = ⟨#[]⟩ := by
  unfold cutB; rw [h]; apply ba_ext; simp
theorem cutA_size (s : ByteArray) : (cutA s).size = cutI s := by
  unfold cutA; rw [ByteArray.size_extract]; have := cutI_le s; omega
theorem cutB_size (s : ByteArray) : (cutB s).size = s.size - (cutI s + 1) := by
  unfold cutB; rw [ByteArray.size_extract]; omega

/-- the words of the statements, by their kinds -/
def wordL : Nat → List UInt8
  | 1 => [98, 101, 103, 105, 110]
  | 2 => [99, 111, 109, 109, 105, 116]
  | 3 => [114, 111, 108, 108, 98, 97, 99, 107]
  | 4 => [114, 101, 115, 101, 116]
  | 5 => [102, 97, 105, 108]
  | 6 => [103, 101, 116]
  | 7 => [114, 101, 97, 100]
  | 8 => [101, 120, 101, 99]
  | 9 => [115, 101, 116]
  | 10 => [112, 117, 116]
  | 11 => [112, 114, 101, 112]
  | _ => []
def wordAt (k : Nat) : ByteArray := ⟨(wordL k).toArray⟩
theorem wordAt_toList (k : Nat) : (wordAt k).data.toList = wordL k := by simp [wordAt]
def kindL (l : List UInt8) : Nat := ((List.range 12).find? fun k => decide (1 ≤ k) && (wordL k == l)).getD 0
/-- the kind with this word; 0: there is none -/
def kindN (s : ByteArray) : Nat := kindL s.data.toList
theorem kindL_word : ∀ k, k ≤ 11 → 1 ≤ k → kindL (wordL k) = k := by decide
theorem kindN_hit {s : ByteArray} {k : Nat} (h1 : 1 ≤ k) (h2 : k ≤ 11) (h : wordL k = s.data.toList) : kindN s = k := by
  unfold kindN; rw [← h]; exact kindL_word k h2 h1
theorem kindN_none {s : ByteArray} (h : ∀ k, 1 ≤ k → k ≤ 11 → wordL k ≠ s.data.toList) : kindN s = 0 := by
  unfold kindN kindL
  rw [List.find?_eq_none.2]
  · rfl
  · intro k hk
    simp only [List.mem_range] at hk
    simp only [Bool.and_eq_true, decide_eq_true_eq, beq_iff_eq, not_and]
    exact fun h1 => h k h1 (by omega)
theorem kindN_le (s : ByteArray) : kindN s ≤ 11 := by
  unfold kindN kindL
  cases hf : (List.range 12).find? fun k => decide (1 ≤ k) && (wordL k == s.data.toList) with
  | none => simp
  | some k =>
    have := List.mem_of_find?_eq_some hf
    simp only [List.mem_range] at this
    simp; omega
theorem kindN_word {s : ByteArray} (h : 1 ≤ kindN s) : wordL (kindN s) = s.data.toList := by
  unfold kindN kindL at h ⊢
  cases hf : (List.range 12).find? fun k => decide (1 ≤ k) && (wordL k == s.data.toList) with
  | none => rw [hf] at h; simp at h
  | some k =>
    have := List.find?_some hf
    simp only [Bool.and_eq_true, decide_eq_true_eq, beq_iff_eq] at this
    simp [this.2]

/-- a blank is followed by an empty Key or Value -/
def splitBad (t : ByteArray) : Bool := (cutF t && (cutA (cutB t)).toList.isEmpty) || (cutF (cutB t) && (cutB (cutB t)).toList.isEmpty)

/-- what is wrong with a text, but for what Check asks -/
def splitE (t : ByteArray) : Int := if kindN (cutA t) = 0 then 3 else if splitBad t = true then 4 else 0
theorem splitE_ok {t : ByteArray} (h : splitE t = 0) : kindN (cutA t) ≠ 0 ∧ splitBad t = false := by
  unfold splitE at h
  split at h
  · omega
  · rename_i h0
    split at h
    · omega
    · rename_i h1; exact ⟨h0, by simpa using h1⟩
theorem splitE_kind {t : ByteArray} (h : kindN (cutA t) = 0) : splitE t = 3 := by unfold splitE; rw [if_pos h]
theorem splitE_form {t : ByteArray} (h : kindN (cutA t) ≠ 0) (hb : splitBad t = true) : splitE t = 4 := by unfold splitE; rw [if_neg h, if_pos hb]
theorem splitE_bad {t : ByteArray} (h : kindN (cutA t) ≠ 0) (he : splitE t ≠ 0) : splitBad t = true := by
  unfold splitE at he
  rw [if_neg h] at he
  cases hb : splitBad t
  · rw [hb] at he; simp at he
  · rfl
theorem cutF_none {t : ByteArray} (h : cutF t = false) : cutF (cutB t) = false := by
  have := cutB_size t
  unfold cutF at h ⊢
  simp only [decide_eq_false_iff_not] at h ⊢
  omega

/-- the Value of a statement that prepares nothing -/
def plainV (k : Int) (v : ByteArray) : Bool := if k = 9 ∨ k = 10 then bndB 33 126 20 v else v.toList.isEmpty
theorem plainV_yes {k : Int} {v : ByteArray} (h : k = 9 ∨ k = 10) : plainV k v = bndB 33 126 20 v := by unfold plainV; rw [if_pos h]
theorem plainV_no {k : Int} {v : ByteArray} (h : ¬ (k = 9 ∨ k = 10)) : plainV k v = v.toList.isEmpty := by unfold plainV; rw [if_neg h]
/-- the Key of a statement -/
def keyB (k : Int) (key : ByteArray) : Bool := if 6 ≤ k ∧ k ≤ 11 then bndB 97 122 8 key else key.toList.isEmpty
theorem keyB_yes {k : Int} {v : ByteArray} (h : 6 ≤ k ∧ k ≤ 11) : keyB k v = bndB 97 122 8 v := by unfold keyB; rw [if_pos h]
theorem keyB_no {k : Int} {v : ByteArray} (h : ¬ (6 ≤ k ∧ k ≤ 11)) : keyB k v = v.toList.isEmpty := by unfold keyB; rw [if_neg h]
/-- the text of a Get, a Read or a Put -/
def prepB (t : ByteArray) : Bool := decide (splitE t = 0) && (decide (kindN (cutA t) = 6 ∨ kindN (cutA t) = 7 ∨ kindN (cutA t) = 10) && (bndB 97 122 8 (cutA (cutB t)) && plainV (kindN (cutA t)) (cutB (cutB t))))
theorem prepB_split {t : ByteArray} (h : splitE t ≠ 0) : prepB t = false := by unfold prepB; rw [decide_eq_false h, Bool.false_and]
theorem prepB_kind {t : ByteArray} (h : ¬ (kindN (cutA t) = 6 ∨ kindN (cutA t) = 7 ∨ kindN (cutA t) = 10)) : prepB t = false := by unfold prepB; rw [decide_eq_false h]; simp
theorem prepB_rest {t : ByteArray} (h : splitE t = 0) (hk : kindN (cutA t) = 6 ∨ kindN (cutA t) = 7 ∨ kindN (cutA t) = 10) :
    prepB t = (bndB 97 122 8 (cutA (cutB t)) && plainV (kindN (cutA t)) (cutB (cutB t))) := by unfold prepB; rw [decide_eq_true h, decide_eq_true hk, Bool.true_and, Bool.true_and]
/-- the Value of a statement -/
def valueB (k : Int) (v : ByteArray) : Bool := if k = 11 then prepB v else plainV k v
/-- what Check finds -/
def checkE (k : Int) (key v : ByteArray) : Int := if k < 1 ∨ 11 < k then 3 else if (keyB k key && valueB k v) = true then 0 else 4
theorem checkE_kind {k : Int} {key v : ByteArray} (h : k < 1 ∨ 11 < k) : checkE k key v = 3 := by unfold checkE; rw [if_pos h]
theorem checkE_ok {k : Int} {key v : ByteArray} (h : ¬ (k < 1 ∨ 11 < k)) (h1 : keyB k key = true) (h2 : valueB k v = true) : checkE k key v = 0 := by unfold checkE; rw [if_neg h, h1, h2]; rfl
theorem checkE_key {k : Int} {key v : ByteArray} (h : ¬ (k < 1 ∨ 11 < k)) (h1 : keyB k key = false) : checkE k key v = 4 := by unfold checkE; rw [if_neg h, h1]; rfl
theorem checkE_value {k : Int} {key v : ByteArray} (h : ¬ (k < 1 ∨ 11 < k)) (h2 : valueB k v = false) : checkE k key v = 4 := by unfold checkE; rw [if_neg h, h2]; simp

/-- what Read finds -/
def readE (t : ByteArray) : Int := if 60 < t.size then 1 else if splitE t = 0 then checkE (kindN (cutA t)) (cutA (cutB t)) (cutB (cutB t)) else splitE t
theorem readE_long {t : ByteArray} (h : 60 < t.size) : readE t = 1 := by unfold readE; rw [if_pos h]
theorem readE_split {t : ByteArray} (h : ¬ 60 < t.size) (h1 : splitE t ≠ 0) : readE t = splitE t := by unfold readE; rw [if_neg h, if_neg h1]
theorem readE_check {t : ByteArray} (h : ¬ 60 < t.size) (h1 : splitE t = 0) : readE t = checkE (kindN (cutA t)) (cutA (cutB t)) (cutB (cutB t)) := by unfold readE; rw [if_neg h, if_pos h1]
theorem isEmpty_size {s : ByteArray} (h : s.toList.isEmpty = true) : s.size = 0 := by
  rw [Lib.toList_data, List.isEmpty_iff] at h
  have e : s.size = s.data.toList.length := by simp
  rw [e, h]; rfl
theorem bndB_size {lo hi lim : Nat} {s : ByteArray} (h : bndB lo hi lim s = true) : 1 ≤ s.size ∧ s.size ≤ lim := by
  unfold bndB at h
  simp only [Bool.and_eq_true, decide_eq_true_eq] at h
  exact h.1
theorem wordL_len : ∀ k, k ≤ 11 → (wordL k).length ≤ 8 := by decide
theorem cut_total (t : ByteArray) : t.size ≤ (cutA t).size + 1 + (cutB t).size := by
  have := cutA_size t
  have := cutB_size t
  have := cutI_le t
  omega
theorem kind_size {t : ByteArray} (h : kindN (cutA t) ≠ 0) : (cutA t).size ≤ 8 := by
  have h1 := kindN_word (s := cutA t) (by omega)
  have h2 := wordL_len (kindN (cutA t)) (kindN_le _)
  rw [h1] at h2
  simpa using h2
theorem plainV_size {k : Int} {v : ByteArray} (h : plainV k v = true) : v.size ≤ 20 := by
  unfold plainV at h
  split at h
  · exact (bndB_size h).2
  · have := isEmpty_size h; omega
theorem prepB_read (t : ByteArray) : prepB t = (decide (readE t = 0) && decide (kindN (cutA t) = 6 ∨ kindN (cutA t) = 7 ∨ kindN (cutA t) = 10)) := by
  by_cases hk : kindN (cutA t) = 6 ∨ kindN (cutA t) = 7 ∨ kindN (cutA t) = 10
  · rw [decide_eq_true hk, Bool.and_true]
    by_cases h : splitE t = 0
    · rw [prepB_rest h hk]
      have hkb : keyB (kindN (cutA t)) (cutA (cutB t)) = bndB 97 122 8 (cutA (cutB t)) := keyB_yes (by omega)
      have hvb : valueB (kindN (cutA t)) (cutB (cutB t)) = plainV (kindN (cutA t)) (cutB (cutB t)) := by unfold valueB; rw [if_neg (by omega)]
      have hk1 : ¬ ((kindN (cutA t) : Int) < 1 ∨ 11 < (kindN (cutA t) : Int)) := by omega
      cases h1 : bndB 97 122 8 (cutA (cutB t))
      · by_cases hl : 60 < t.size
        · rw [readE_long hl]; rfl
        · rw [readE_check hl h, checkE_key hk1 (hkb.trans h1)]; rfl
      · cases h2 : plainV (kindN (cutA t)) (cutB (cutB t))
        · by_cases hl : 60 < t.size
          · rw [readE_long hl]; rfl
          · rw [readE_check hl h, checkE_value hk1 (hvb.trans h2)]; rfl
        · have hl : ¬ 60 < t.size := by
            have a1 := cut_total t
            have a2 := cut_total (cutB t)
            have a3 := kind_size (t := t) (by omega)
            have a4 := bndB_size h1
            have a5 := plainV_size h2
            omega
          rw [readE_check hl h, checkE_ok hk1 (hkb.trans h1) (hvb.trans h2)]; rfl
    · rw [prepB_split h]
      by_cases hl : 60 < t.size
      · rw [readE_long hl]; rfl
      · rw [readE_split hl h, decide_eq_false h]
  · rw [prepB_kind hk, decide_eq_false hk, Bool.and_false]

/-- the kind, where it is less than k -/
def kindBefore (k : Nat) (s : ByteArray) : Nat := if kindN s < k then kindN s else 0
theorem kindBefore_hit {k : Nat} {s : ByteArray} (h : kindN s = k) : kindBefore (k + 1) s = k := by unfold kindBefore; rw [if_pos (by omega), h]
theorem kindBefore_miss {k : Nat} {s : ByteArray} (h : kindN s ≠ k) : kindBefore (k + 1) s = kindBefore k s := by
  unfold kindBefore
  by_cases h1 : kindN s < k
  · rw [if_pos h1, if_pos (by omega)]
  · rw [if_neg h1, if_neg (by omega)]
theorem kindBefore_one (s : ByteArray) : kindBefore 1 s = 0 := by
  unfold kindBefore; split <;> omega
theorem kindBefore_all (s : ByteArray) : kindBefore 12 s = kindN s := by
  unfold kindBefore; rw [if_pos (by have := kindN_le s; omega)]
theorem kindN_word_iff {s : ByteArray} {k : Nat} (h1 : 1 ≤ k) (h2 : k ≤ 11) : kindN s = k ↔ wordL k = s.data.toList :=
  ⟨fun h => by rw [← h]; exact kindN_word (by omega), fun h => kindN_hit h1 h2 h⟩

theorem cutF_parts {t : ByteArray} (h : cutF t = false) : cutA (cutB t) = ⟨#[]⟩ ∧ cutB (cutB t) = ⟨#[]⟩ := by
  have h0 : cutI t = t.size := by
    have := cutI_le t
    unfold cutF at h
    simp only [decide_eq_false_iff_not] at h
    omega
  rw [cutB_none h0]
  exact ⟨rfl, rfl⟩
theorem splitBad_none {t : ByteArray} (h : cutF t = false) : splitBad t = false := by
  unfold splitBad; rw [h, cutF_none h]; rfl
theorem splitE_zero {t : ByteArray} (h : kindN (cutA t) ≠ 0) (hb : splitBad t = false) : splitE t = 0 := by
  unfold splitE; rw [if_neg h, hb]; rfl

end Go.Proofs.Ytpbaobmegomfpab

/-
  Plain mathematics: what follows from a good statement; its text.
-/
namespace Go.Proofs.Ytpbaobmegomfpab
open Go.RowKit

theorem empty_of {s : ByteArray} (h : s.size = 0) : s.toList.isEmpty = true := by
  rw [Lib.toList_data, List.isEmpty_iff]
  have : s.data.toList.length = 0 := by simpa using congrArg (fun n => n) (show s.data.size = 0 from h)
  exact List.length_eq_zero_iff.1 this
theorem full_of {s : ByteArray} (h : 1 ≤ s.size) : s.toList.isEmpty = false := by
  cases e : s.toList.isEmpty
  · rfl
  · have := isEmpty_size e; omega
theorem wordL_pos : ∀ k, k ≤ 11 → 1 ≤ k → 1 ≤ (wordL k).length := by decide
theorem kind_pos {t : ByteArray} (h : kindN (cutA t) ≠ 0) : 1 ≤ t.size := by
  have h1 := kindN_word (s := cutA t) (by omega)
  have h2 := wordL_pos (kindN (cutA t)) (kindN_le _) (by omega)
  rw [h1] at h2
  have h3 : (cutA t).data.toList.length = (cutA t).size := by simp
  have := cutA_size t
  have := cutI_le t
  omega
theorem prepB_size {v : ByteArray} (h : prepB v = true) : 1 ≤ v.size ∧ v.size ≤ 60 := by
  rw [prepB_read] at h
  simp only [Bool.and_eq_true, decide_eq_true_eq] at h
  refine ⟨kind_pos (by omega), ?_⟩
  by_cases hl : 60 < v.size
  · rw [readE_long hl] at h; omega
  · omega

/-- a good statement -/
structure Good (k : Int) (key v : ByteArray) : Prop where
  lo : 1 ≤ k
  hi : k ≤ 11
  key8 : key.size ≤ 8
  v60 : v.size ≤ 60
  keyE : key.toList.isEmpty = decide (k < 6)
  vE : v.toList.isEmpty = decide (k < 9)
theorem good_of {k : Int} {key v : ByteArray} (h : checkE k key v = 0) : Good k key v := by
  by_cases hk : k < 1 ∨ 11 < k
  · rw [checkE_kind hk] at h; cases h
  · cases h1 : keyB k key
    · rw [checkE_key hk h1] at h; cases h
    · cases h2 : valueB k v
      · rw [checkE_value hk h2] at h; cases h
      · have a1 : key.size ≤ 8 ∧ key.toList.isEmpty = decide (k < 6) := by
          by_cases h6 : 6 ≤ k ∧ k ≤ 11
          · rw [keyB_yes h6] at h1
            have := bndB_size h1
            exact ⟨this.2, by rw [full_of this.1, decide_eq_false (by omega)]⟩
          · rw [keyB_no h6] at h1
            exact ⟨by have := isEmpty_size h1; omega, by rw [h1, decide_eq_true (by omega)]⟩
        have a2 : v.size ≤ 60 ∧ v.toList.isEmpty = decide (k < 9) := by
          by_cases h11 : k = 11
          · unfold valueB at h2
            rw [if_pos h11] at h2
            have := prepB_size h2
            exact ⟨this.2, by rw [full_of this.1, decide_eq_false (by omega)]⟩
          · unfold valueB at h2
            rw [if_neg h11] at h2
            by_cases h9 : k = 9 ∨ k = 10
            · rw [plainV_yes h9] at h2
              have := bndB_size h2
              exact ⟨by omega, by rw [full_of this.1, decide_eq_false (by omega)]⟩
            · rw [plainV_no h9] at h2
              exact ⟨by have := isEmpty_size h2; omega, by rw [h2, decide_eq_true (by omega)]⟩
        exact ⟨by omega, by omega, a1.1, a2.1, a1.2, a2.2⟩

/-- the text of a statement -/
def textOf (k : Nat) (key v : ByteArray) : ByteArray :=
  if k < 6 then wordAt k else if k < 9 then wordAt k ++ (⟨#[32]⟩ ++ key) else (wordAt k ++ (⟨#[32]⟩ ++ key)) ++ (⟨#[32]⟩ ++ v)
theorem textOf_6 {k : Nat} {key v : ByteArray} (h : k < 6) : textOf k key v = wordAt k := by unfold textOf; rw [if_pos h]
theorem textOf_9 {k : Nat} {key v : ByteArray} (h : ¬ k < 6) (h2 : k < 9) : textOf k key v = wordAt k ++ (⟨#[32]⟩ ++ key) := by unfold textOf; rw [if_neg h, if_pos h2]
theorem textOf_12 {k : Nat} {key v : ByteArray} (h : ¬ k < 9) : textOf k key v = (wordAt k ++ (⟨#[32]⟩ ++ key)) ++ (⟨#[32]⟩ ++ v) := by unfold textOf; rw [if_neg (by omega), if_neg h]
theorem app_assoc (a b c : ByteArray) : (a ++ b) ++ c = a ++ (b ++ c) := by
  apply ba_ext; simp [ByteArray.data_append]
theorem wordAt_size {k : Nat} (h : k ≤ 11) : (wordAt k).size ≤ 8 := by
  have h1 := wordL_len k h
  have h2 : (wordAt k).size = (wordL k).length := by show (wordAt k).data.size = _; simp [wordAt]
  omega

end Go.Proofs.Ytpbaobmegomfpab

/-
  Plain mathematics: sessions of a server over rows, as the document has them (nothing of the program is imported).
-/
namespace Go.Proofs.Ytpbaobmegomfpab
open Go.RowKit
set_option linter.unusedVariables false

/-- pairs, as lists -/
abbrev PL := List (ByteArray × ByteArray)
/-- are two strings one, and is one less, byte by byte? -/
def eqB (a b : ByteArray) : Bool := a.toList == b.toList
def ltB (a b : ByteArray) : Bool := Op.bytesLess a.toList b.toList
theorem eqB_iff {a b : ByteArray} : eqB a b = true ↔ a = b := by
  unfold eqB
  rw [beq_iff_eq, Lib.toList_data, Lib.toList_data]
  exact ⟨fun h => ba_ext h, fun h => by rw [h]⟩
theorem eqB_self (a : ByteArray) : eqB a a = true := eqB_iff.2 rfl
theorem bl_irrefl : ∀ l : List UInt8, Op.bytesLess l l = false
  | [] => rfl
  | a :: l => by simp [Op.bytesLess, bl_irrefl l]
theorem bl_trans : ∀ {x y z : List UInt8}, Op.bytesLess x y = true → Op.bytesLess y z = true → Op.bytesLess x z = true
  | [], [], _, h, _ => by simp [Op.bytesLess] at h
  | [], b :: y, [], _, h => by simp [Op.bytesLess] at h
  | [], b :: y, c :: z, _, _ => by simp [Op.bytesLess]
  | a :: x, [], _, h, _ => by simp [Op.bytesLess] at h
  | a :: x, b :: y, [], _, h => by simp [Op.bytesLess] at h
  | a :: x, b :: y, c :: z, h1, h2 => by
    simp only [Op.bytesLess, Bool.or_eq_true, decide_eq_true_eq, Bool.and_eq_true, beq_iff_eq] at h1 h2 ⊢
    rcases h1 with h1 | ⟨rfl, h1⟩
    · rcases h2 with h2 | ⟨rfl, h2⟩
      · exact .inl (UInt8.lt_trans h1 h2)
      · exact .inl h1
    · rcases h2 with h2 | ⟨rfl, h2⟩
      · exact .inl h2
      · exact .inr ⟨rfl, bl_trans h1 h2⟩
theorem bl_total : ∀ {x y : List UInt8}, Op.bytesLess x y = false → Op.bytesLess y x = false → x = y
  | [], [], _, _ => rfl
  | [], b :: y, h, _ => by simp [Op.bytesLess] at h
  | a :: x, [], _, h => by simp [Op.bytesLess] at h
  | a :: x, b :: y, h1, h2 => by
    simp only [Op.bytesLess, Bool.or_eq_false_iff, decide_eq_false_iff_not, Bool.and_eq_false_iff, beq_eq_false_iff_ne] at h1 h2
    have e : a = b := by
      apply UInt8.toNat_inj.1
      have h3 := h1.1
      have h4 := h2.1
      rw [UInt8.lt_iff_toNat_lt] at h3 h4
      omega
    subst e
    rw [bl_total (h1.2.resolve_left (by simp)) (h2.2.resolve_left (by simp))]
theorem ltB_irrefl (a : ByteArray) : ltB a a = false := bl_irrefl _
theorem ltB_trans {a b c : ByteArray} (h1 : ltB a b = true) (h2 : ltB b c = true) : ltB a c = true := bl_trans h1 h2
theorem ltB_total {a b : ByteArray} (h1 : ltB a b = false) (h2 : ltB b a = false) : a = b := by
  have := bl_total h1 h2
  rw [Lib.toList_data, Lib.toList_data] at this
  exact ba_ext this
theorem ltB_ne {a b : ByteArray} (h : ltB a b = true) : a ≠ b := fun e => by rw [e, ltB_irrefl] at h; cases h
theorem ltB_asymm {a b : ByteArray} (h : ltB a b = true) : ltB b a = false := by
  cases e : ltB b a
  · rfl
  · have := ltB_trans h e; rw [ltB_irrefl] at this; cases this

/-- the value of a key -/
def atL : PL → ByteArray → Option ByteArray
  | [], _ => none
  | p :: l, k => if eqB p.1 k then some p.2 else atL l k
/-- one pair more, by its key, or in the place of the one with that key -/
def plusGo (k v : ByteArray) : Bool → PL → PL
  | done, [] => if done then [] else [(k, v)]
  | done, p :: l => (if !done && !ltB p.1 k then [(k, v)] else []) ++ ((if eqB p.1 k then [] else [p]) ++ plusGo k v (done || !ltB p.1 k) l)
def plusL (l : PL) (k v : ByteArray) : PL := plusGo k v false l
/-- the keys are strictly increasing -/
def risingB : PL → Bool
  | [] => true
  | [_] => true
  | p :: q :: l => ltB p.1 q.1 && risingB (q :: l)
/-- P2.1: each pair is good for the kind, the keys rise, there are at most so many -/
def pairsB (l : PL) (most : Nat) (kind : Int) : Bool := (l.all fun p => decide (checkE kind p.1 p.2 = 0)) && (risingB l && decide (l.length ≤ most))

/-- a session, a world -/
structure Sess where
  st : Int
  set : PL
  prep : PL
  sav : PL
  wr : PL
structure Wd where
  rows : PL
  ss : List Sess

end Go.Proofs.Ytpbaobmegomfpab

/-
  Plain mathematics: ordered lists of pairs.
-/
namespace Go.Proofs.Ytpbaobmegomfpab
open Go.RowKit
set_option linter.unusedVariables false

theorem eqB_false {a b : ByteArray} : eqB a b = false ↔ a ≠ b := by
  rw [← Bool.not_eq_true, eqB_iff]
theorem risingB_iff : ∀ {l : PL}, risingB l = true ↔ ∀ j (h : j + 1 < l.length), ltB l[j].1 l[j + 1].1 = true
  | [] => by simp [risingB]
  | [p] => by simp [risingB]
  | p :: q :: l => by
    unfold risingB
    rw [Bool.and_eq_true, risingB_iff]
    constructor
    · rintro ⟨h0, h1⟩ j hj
      cases j with
      | zero => exact h0
      | succ j => exact h1 j (by simpa using hj)
    · intro h
      exact ⟨h 0 (by simp), fun j hj => h (j + 1) (by simpa using hj)⟩
theorem rising_tail {p : ByteArray × ByteArray} {l : PL} (h : risingB (p :: l) = true) : risingB l = true := by
  cases l with
  | nil => rfl
  | cons q l => unfold risingB at h; rw [Bool.and_eq_true] at h; exact h.2
theorem rising_head : ∀ {l : PL} {p : ByteArray × ByteArray}, risingB (p :: l) = true → ∀ q ∈ l, ltB p.1 q.1 = true
  | q0 :: l, p, h, q, hq => by
    have h' := h
    unfold risingB at h'
    rw [Bool.and_eq_true] at h'
    rcases List.mem_cons.1 hq with rfl | hq
    · exact h'.1
    · exact ltB_trans h'.1 (rising_head h'.2 q hq)
theorem rising_cons {l : PL} {p : ByteArray × ByteArray} (h : risingB l = true) (hp : ∀ q ∈ l, ltB p.1 q.1 = true) : risingB (p :: l) = true := by
  cases l with
  | nil => rfl
  | cons q l => unfold risingB; rw [hp q (by simp), h]; rfl
theorem rising_lt {l : PL} (h : risingB l = true) : ∀ i j (hi : i < j) (hj : j < l.length), ltB (l[i]'(by omega)).1 l[j].1 = true := by
  intro i j hi hj
  induction j with
  | zero => omega
  | succ j ih =>
    have h1 := (risingB_iff.1 h) j hj
    by_cases e : i = j
    · subst e; exact h1
    · exact ltB_trans (ih (by omega) (by omega)) h1

theorem pairsB_yes {l : PL} {most : Nat} {kind : Int} (h1 : ∀ j (h : j < l.length), checkE kind l[j].1 l[j].2 = 0) (h2 : ∀ j (h : j + 1 < l.length), ltB l[j].1 l[j + 1].1 = true) (h3 : l.length ≤ most) : pairsB l most kind = true := by
  unfold pairsB
  rw [risingB_iff.2 h2, decide_eq_true h3, Bool.and_true, Bool.and_true, List.all_eq_true]
  intro p hp
  obtain ⟨j, hj, rfl⟩ := List.getElem_of_mem hp
  exact decide_eq_true (h1 j hj)
theorem pairsB_long {l : PL} {most : Nat} {kind : Int} (h : ¬ l.length ≤ most) : pairsB l most kind = false := by
  unfold pairsB; rw [decide_eq_false h]; simp
theorem pairsB_bad {l : PL} {most : Nat} {kind : Int} {j : Nat} (hj : j < l.length) (h : checkE kind l[j].1 l[j].2 ≠ 0) : pairsB l most kind = false := by
  unfold pairsB
  have : (l.all fun p => decide (checkE kind p.1 p.2 = 0)) = false := by
    rw [List.all_eq_false]
    exact ⟨l[j], List.getElem_mem hj, by simpa using h⟩
  rw [this]; rfl
theorem pairsB_fall {l : PL} {most : Nat} {kind : Int} {j : Nat} (hj : j + 1 < l.length) (h : ltB l[j].1 l[j + 1].1 = false) : pairsB l most kind = false := by
  unfold pairsB
  have : risingB l = false := by
    rw [← Bool.not_eq_true]
    intro hr
    have := risingB_iff.1 hr j hj
    rw [h] at this; cases this
  rw [this]; simp
theorem pairsB_rising {l : PL} {most : Nat} {kind : Int} (h : pairsB l most kind = true) : risingB l = true ∧ l.length ≤ most ∧ ∀ p ∈ l, checkE kind p.1 p.2 = 0 := by
  unfold pairsB at h
  simp only [Bool.and_eq_true, decide_eq_true_eq, List.all_eq_true] at h
  exact ⟨h.2.1, h.2.2, h.1⟩

/-- one pair more in an ordered list -/
def insL : PL → ByteArray → ByteArray → PL
  | [], k, v => [(k, v)]
  | p :: l, k, v => if ltB p.1 k then p :: insL l k v else if eqB p.1 k then (k, v) :: l else (k, v) :: p :: l
theorem plusGo_done : ∀ {l : PL} {k v : ByteArray}, (∀ q ∈ l, ltB k q.1 = true) → plusGo k v true l = l
  | [], _, _, _ => rfl
  | p :: l, k, v, h => by
    unfold plusGo
    have hp := h p (by simp)
    have : eqB p.1 k = false := eqB_false.2 (fun e => ltB_ne hp e.symm)
    rw [this, Bool.true_or, plusGo_done (fun q hq => h q (by simp [hq]))]
    rfl
theorem plus_ins : ∀ {l : PL} {k v : ByteArray}, risingB l = true → plusL l k v = insL l k v
  | [], _, _, _ => rfl
  | p :: l, k, v, h => by
    unfold plusL plusGo insL
    cases h1 : ltB p.1 k
    · have hd : ∀ q ∈ l, ltB k q.1 = true := fun q hq => by
        cases h2 : eqB p.1 k
        · have : ltB k p.1 = true := by
            cases h3 : ltB k p.1
            · exact absurd (ltB_total h1 h3) (eqB_false.1 h2)
            · rfl
          exact ltB_trans this (rising_head h q hq)
        · rw [← eqB_iff.1 h2]; exact rising_head h q hq
      rw [Bool.false_or, Bool.not_false, plusGo_done hd]
      cases h2 : eqB p.1 k <;> simp
    · have : eqB p.1 k = false := eqB_false.2 (ltB_ne h1)
      rw [this, Bool.false_or]
      have ih := plus_ins (k := k) (v := v) (rising_tail h)
      unfold plusL at ih
      simp [ih]
theorem ins_mem : ∀ {l : PL} {k v : ByteArray} {q : ByteArray × ByteArray}, q ∈ insL l k v → q = (k, v) ∨ q ∈ l
  | [], k, v, q, h => by simpa [insL] using h
  | p :: l, k, v, q, h => by
    unfold insL at h
    split at h
    · rcases List.mem_cons.1 h with rfl | h
      · exact .inr (by simp)
      · rcases ins_mem h with h | h
        · exact .inl h
        · exact .inr (by simp [h])
    · split at h
      · rcases List.mem_cons.1 h with rfl | h
        · exact .inl rfl
        · exact .inr (by simp [h])
      · rcases List.mem_cons.1 h with rfl | h
        · exact .inl rfl
        · exact .inr h
theorem ins_rising : ∀ {l : PL} {k v : ByteArray}, risingB l = true → risingB (insL l k v) = true
  | [], _, _, _ => rfl
  | p :: l, k, v, h => by
    unfold insL
    cases h1 : ltB p.1 k
    · rw [if_neg (by simp)]
      cases h2 : eqB p.1 k
      · rw [if_neg (by simp)]
        have hk : ltB k p.1 = true := by
          cases h3 : ltB k p.1
          · exact absurd (ltB_total h1 h3) (eqB_false.1 h2)
          · rfl
        exact rising_cons h (fun q hq => by
          rcases List.mem_cons.1 hq with rfl | hq
          · exact hk
          · exact ltB_trans hk (rising_head h q hq))
      · rw [if_pos rfl]
        exact rising_cons (rising_tail h) (fun q hq => by show ltB k q.1 = true; rw [← eqB_iff.1 h2]; exact rising_head h q hq)
    · rw [if_pos rfl]
      refine rising_cons (ins_rising (rising_tail h)) (fun q hq => ?_)
      rcases ins_mem hq with rfl | hq
      · exact h1
      · exact rising_head h q hq
theorem atL_yes {p : ByteArray × ByteArray} {l : PL} {k : ByteArray} (h : eqB p.1 k = true) : atL (p :: l) k = some p.2 := by rw [atL, if_pos h]
theorem atL_no {p : ByteArray × ByteArray} {l : PL} {k : ByteArray} (h : eqB p.1 k = false) : atL (p :: l) k = atL l k := by rw [atL, if_neg (by simp [h])]
theorem insL_lt {p : ByteArray × ByteArray} {l : PL} {k v : ByteArray} (h : ltB p.1 k = true) : insL (p :: l) k v = p :: insL l k v := by rw [insL, if_pos h]
theorem insL_eq {p : ByteArray × ByteArray} {l : PL} {k v : ByteArray} (h1 : ltB p.1 k = false) (h : eqB p.1 k = true) : insL (p :: l) k v = (k, v) :: l := by rw [insL, if_neg (by simp [h1]), if_pos h]
theorem insL_gt {p : ByteArray × ByteArray} {l : PL} {k v : ByteArray} (h1 : ltB p.1 k = false) (h : eqB p.1 k = false) : insL (p :: l) k v = (k, v) :: p :: l := by rw [insL, if_neg (by simp [h1]), if_neg (by simp [h])]
theorem at_ins : ∀ {l : PL} {k v k' : ByteArray}, risingB l = true → atL (insL l k v) k' = if eqB k k' then some v else atL l k'
  | [], k, v, k', _ => by simp [insL, atL]
  | p :: l, k, v, k', h => by
    cases h1 : ltB p.1 k
    · cases h2 : eqB p.1 k
      · rw [insL_gt h1 h2, atL]
      · rw [insL_eq h1 h2]
        cases h3 : eqB k k'
        · rw [atL_no h3, atL_no (by rw [eqB_iff.1 h2]; exact h3), if_neg (by simp)]
        · rw [atL_yes h3, if_pos rfl]
    · rw [insL_lt h1]
      cases h3 : eqB p.1 k'
      · rw [atL_no h3, atL_no h3, at_ins (rising_tail h)]
      · have : eqB k k' = false := eqB_false.2 (fun e => ltB_ne h1 (by rw [eqB_iff.1 h3, e]))
        rw [atL_yes h3, atL_yes h3, this, if_neg (by simp)]
theorem atL_none {l : PL} {k : ByteArray} (hd : ∀ q ∈ l, eqB q.1 k = false) : atL l k = none := by
  induction l with
  | nil => rfl
  | cons q l ih => rw [atL_no (hd q (by simp))]; exact ih (fun q hq => hd q (by simp [hq]))
theorem lt_of_not {p k : ByteArray} (h1 : ltB p k = false) (h2 : eqB p k = false) : ltB k p = true := by
  cases h3 : ltB k p
  · exact absurd (ltB_total h1 h3) (eqB_false.1 h2)
  · rfl
theorem ins_length : ∀ {l : PL} {k v : ByteArray}, risingB l = true → (insL l k v).length = if (atL l k).isSome then l.length else l.length + 1
  | [], _, _, _ => rfl
  | p :: l, k, v, h => by
    cases h1 : ltB p.1 k
    · cases h2 : eqB p.1 k
      · have hk := lt_of_not h1 h2
        rw [insL_gt h1 h2, atL_no h2, atL_none (fun q hq => eqB_false.2 (fun e => ltB_ne (ltB_trans hk (rising_head h q hq)) e.symm))]
        simp
      · rw [insL_eq h1 h2, atL_yes h2]; simp
    · rw [insL_lt h1, atL_no (eqB_false.2 (ltB_ne h1)), List.length_cons, ins_length (rising_tail h), List.length_cons]
      split <;> rfl
theorem atL_mem : ∀ {l : PL} {k v : ByteArray}, atL l k = some v → (k, v) ∈ l
  | p :: l, k, v, h => by
    unfold atL at h
    split at h
    · rename_i h1
      have := eqB_iff.1 h1
      simp only [Option.some.injEq] at h
      subst this h
      simp
    · exact List.mem_cons_of_mem _ (atL_mem h)
theorem atL_of_mem : ∀ {l : PL} {p : ByteArray × ByteArray}, p ∈ l → (atL l p.1).isSome = true
  | q :: l, p, h => by
    unfold atL
    cases h1 : eqB q.1 p.1
    · rw [if_neg (by simp)]
      rcases List.mem_cons.1 h with rfl | h
      · rw [eqB_self] at h1; cases h1
      · exact atL_of_mem h
    · rw [if_pos rfl]; rfl

end Go.Proofs.Ytpbaobmegomfpab

/-
  Plain mathematics: which worlds may be (P2.1).
-/
namespace Go.Proofs.Ytpbaobmegomfpab
open Go.RowKit
set_option linter.unusedVariables false

/-- P2.1: a session by itself -/
def sessB (s : Sess) : Bool :=
  inB 0 s.st 2 && (pairsB s.set 6 9 && (pairsB s.prep 6 11 && (pairsB s.sav 6 9 && (pairsB s.wr 100 10 && (!((s.st == 0) && decide (0 < s.sav.length)) && !((s.st != 1) && decide (0 < s.wr.length)))))))
/-- another session has the key in its Writes -/
def heldB (ss : List Sess) (me : Int) (key : ByteArray) : Bool := (List.range ss.length).any fun i => decide ((i : Int) ≠ me) && ((ss[i]?).any fun s => (atL s.wr key).isSome)
/-- no two sessions have the same key in their Writes -/
def apartB (ss : List Sess) : Bool := (List.range ss.length).all fun (i : Nat) => (ss[i]?).all fun s => s.wr.all fun p => !heldB ss i p.1
/-- those that there are, and those that are written -/
def allF (out : PL) (l : PL) : PL := l.foldl (fun a p => plusL a p.1 ⟨#[]⟩) out
def allL (W : Wd) : PL := allF W.rows (W.ss.flatMap (·.wr))
/-- P2.1 -/
def worldB (W : Wd) : Bool := (pairsB W.rows 100 10 && decide (W.ss.length ≤ 8)) && (W.ss.all sessB && (apartB W.ss && decide ((allL W).length ≤ 100)))

theorem heldB_yes {ss : List Sess} {me : Int} {key : ByteArray} {k : Nat} (hk : k < ss.length) (h : (atL ss[k].wr key).isSome = true) (hne : (k : Int) ≠ me) : heldB ss me key = true := by
  unfold heldB
  rw [List.any_eq_true]
  refine ⟨k, List.mem_range.2 hk, ?_⟩
  rw [List.getElem?_eq_getElem hk, decide_eq_true hne, Bool.true_and]
  exact h
theorem heldB_no {ss : List Sess} {me : Int} {key : ByteArray} (h : ∀ k (hk : k < ss.length), (atL ss[k].wr key).isSome = true → (k : Int) = me) : heldB ss me key = false := by
  unfold heldB
  rw [List.any_eq_false]
  intro k hk
  have hk := List.mem_range.1 hk
  rw [List.getElem?_eq_getElem hk]
  simp only [Bool.and_eq_true, decide_eq_true_eq, not_and]
  intro hne hs
  exact hne (h k hk hs)
theorem heldB_iff {ss : List Sess} {me : Int} {key : ByteArray} : heldB ss me key = true ↔ ∃ k, ∃ hk : k < ss.length, (atL ss[k].wr key).isSome = true ∧ (k : Int) ≠ me := by
  constructor
  · intro h
    apply Classical.byContradiction
    intro hn
    have : heldB ss me key = false := heldB_no (fun k hk hs => Classical.byContradiction fun hne => hn ⟨k, hk, hs, hne⟩)
    rw [h] at this; cases this
  · rintro ⟨k, hk, hs, hne⟩; exact heldB_yes hk hs hne
theorem apartB_iff {ss : List Sess} : apartB ss = true ↔ ∀ i (hi : i < ss.length), ∀ p ∈ ss[i].wr, heldB ss i p.1 = false := by
  unfold apartB
  rw [List.all_eq_true]
  constructor
  · intro h i hi p hp
    have := h i (List.mem_range.2 hi)
    rw [List.getElem?_eq_getElem hi] at this
    have := List.all_eq_true.1 this p hp
    simpa using this
  · intro h i hi
    have hi := List.mem_range.1 hi
    rw [List.getElem?_eq_getElem hi]
    show (ss[i].wr.all _) = true
    rw [List.all_eq_true]
    intro p hp
    rw [h i hi p hp]; rfl

theorem sessB_st {s : Sess} (h : inB 0 s.st 2 = false) : sessB s = false := by unfold sessB; rw [h]; rfl
theorem sessB_set {s : Sess} (h : pairsB s.set 6 9 = false) : sessB s = false := by unfold sessB; rw [h]; simp
theorem sessB_prep {s : Sess} (h : pairsB s.prep 6 11 = false) : sessB s = false := by unfold sessB; rw [h]; simp
theorem sessB_sav {s : Sess} (h : pairsB s.sav 6 9 = false) : sessB s = false := by unfold sessB; rw [h]; simp
theorem sessB_wr {s : Sess} (h : pairsB s.wr 100 10 = false) : sessB s = false := by unfold sessB; rw [h]; simp
theorem sessB_idle {s : Sess} (h1 : s.st = 0) (h2 : 0 < s.sav.length) : sessB s = false := by
  have e1 : (s.st == 0) = true := beq_iff_eq.2 h1
  unfold sessB; rw [e1, decide_eq_true h2]; simp
theorem sessB_tx {s : Sess} (h1 : s.st ≠ 1) (h2 : 0 < s.wr.length) : sessB s = false := by
  have e1 : (s.st != 1) = true := bne_iff_ne.2 h1
  unfold sessB; rw [e1, decide_eq_true h2]; simp
theorem sessB_ok {s : Sess} (h0 : inB 0 s.st 2 = true) (h1 : pairsB s.set 6 9 = true) (h2 : pairsB s.prep 6 11 = true) (h3 : pairsB s.sav 6 9 = true) (h4 : pairsB s.wr 100 10 = true) (h5 : ¬ (s.st = 0 ∧ 0 < s.sav.length)) (h6 : ¬ (s.st ≠ 1 ∧ 0 < s.wr.length)) : sessB s = true := by
  unfold sessB
  rw [h0, h1, h2, h3, h4]
  simp only [Bool.true_and, Bool.and_eq_true, Bool.not_eq_true', Bool.and_eq_false_iff, beq_eq_false_iff_ne, bne_eq_false_iff_eq, decide_eq_false_iff_not]
  refine ⟨?_, ?_⟩
  · by_cases e : s.st = 0
    · exact .inr (fun h => h5 ⟨e, h⟩)
    · exact .inl e
  · by_cases e : s.st = 1
    · exact .inl e
    · exact .inr (fun h => h6 ⟨e, h⟩)
structure SessOk (s : Sess) : Prop where
  lo : 0 ≤ s.st
  hi : s.st ≤ 2
  set : pairsB s.set 6 9 = true
  prep : pairsB s.prep 6 11 = true
  sav : pairsB s.sav 6 9 = true
  wr : pairsB s.wr 100 10 = true
  idle : s.st = 0 → s.sav = []
  tx : s.st ≠ 1 → s.wr = []
theorem sessB_iff {s : Sess} : sessB s = true ↔ SessOk s := by
  constructor
  · intro h
    have h0 : inB 0 s.st 2 = true := by cases e : inB 0 s.st 2 with | true => rfl | false => rw [sessB_st e] at h; cases h
    have h1 : pairsB s.set 6 9 = true := by cases e : pairsB s.set 6 9 with | true => rfl | false => rw [sessB_set e] at h; cases h
    have h2 : pairsB s.prep 6 11 = true := by cases e : pairsB s.prep 6 11 with | true => rfl | false => rw [sessB_prep e] at h; cases h
    have h3 : pairsB s.sav 6 9 = true := by cases e : pairsB s.sav 6 9 with | true => rfl | false => rw [sessB_sav e] at h; cases h
    have h4 : pairsB s.wr 100 10 = true := by cases e : pairsB s.wr 100 10 with | true => rfl | false => rw [sessB_wr e] at h; cases h
    have hi : 0 ≤ s.st ∧ s.st ≤ 2 := by
      unfold inB at h0; simpa using h0
    refine ⟨hi.1, hi.2, h1, h2, h3, h4, fun e => ?_, fun e => ?_⟩
    · by_cases hl : 0 < s.sav.length
      · rw [sessB_idle e hl] at h; cases h
      · exact List.length_eq_zero_iff.1 (by omega)
    · by_cases hl : 0 < s.wr.length
      · rw [sessB_tx e hl] at h; cases h
      · exact List.length_eq_zero_iff.1 (by omega)
  · intro h
    refine sessB_ok (inB_yes ⟨h.lo, h.hi⟩) h.set h.prep h.sav h.wr (fun e => ?_) (fun e => ?_)
    · rw [h.idle e.1] at e; simp at e
    · rw [h.tx e.1] at e; simp at e

theorem plusGo_len : ∀ (l : PL) (k v : ByteArray) (d : Bool), (plusGo k v d l).length ≤ l.length + (!d).toNat
  | [], k, v, d => by cases d <;> simp [plusGo]
  | p :: l, k, v, d => by
    have ih := plusGo_len l k v (d || !ltB p.1 k)
    unfold plusGo
    cases d <;> cases h1 : ltB p.1 k <;> cases h2 : eqB p.1 k <;> simp [h1] at ih ⊢ <;> omega
theorem plusL_len (l : PL) (k v : ByteArray) : (plusL l k v).length ≤ l.length + 1 := plusGo_len l k v false
theorem plusGo_mem : ∀ {l : PL} {k v : ByteArray} {d : Bool} {q : ByteArray × ByteArray}, q ∈ plusGo k v d l → q = (k, v) ∨ q ∈ l
  | [], k, v, d, q, h => by cases d <;> simp [plusGo] at h ⊢; exact h
  | p :: l, k, v, d, q, h => by
    unfold plusGo at h
    rw [List.mem_append, List.mem_append] at h
    rcases h with h | h | h
    · split at h
      · exact .inl (by simpa using h)
      · cases h
    · split at h
      · cases h
      · exact .inr (by simp at h; simp [h])
    · rcases plusGo_mem h with h | h
      · exact .inl h
      · exact .inr (by simp [h])
theorem plusL_mem {l : PL} {k v : ByteArray} {q : ByteArray × ByteArray} (h : q ∈ plusL l k v) : q = (k, v) ∨ q ∈ l := plusGo_mem h

theorem worldB_rows {W : Wd} (h : pairsB W.rows 100 10 = false) : worldB W = false := by unfold worldB; rw [h]; rfl
theorem worldB_many {W : Wd} (h : ¬ W.ss.length ≤ 8) : worldB W = false := by unfold worldB; rw [decide_eq_false h]; simp
theorem worldB_sess {W : Wd} {i : Nat} (hi : i < W.ss.length) (h : sessB W.ss[i] = false) : worldB W = false := by
  have : W.ss.all sessB = false := by
    rw [List.all_eq_false]; exact ⟨W.ss[i], List.getElem_mem hi, by simp [h]⟩
  unfold worldB; rw [this]; simp
theorem worldB_held {W : Wd} {i : Nat} (hi : i < W.ss.length) {p : ByteArray × ByteArray} (hp : p ∈ W.ss[i].wr) (h : heldB W.ss i p.1 = true) : worldB W = false := by
  have : apartB W.ss = false := by
    cases e : apartB W.ss
    · rfl
    · rw [apartB_iff.1 e i hi p hp] at h; cases h
  unfold worldB; rw [this]; simp
theorem worldB_last {W : Wd} (h1 : pairsB W.rows 100 10 = true) (h2 : W.ss.length ≤ 8) (h3 : ∀ i (hi : i < W.ss.length), sessB W.ss[i] = true) (h4 : ∀ i (hi : i < W.ss.length), ∀ p ∈ W.ss[i].wr, heldB W.ss i p.1 = false) : worldB W = decide ((allL W).length ≤ 100) := by
  have : W.ss.all sessB = true := by
    rw [List.all_eq_true]; intro s hs
    obtain ⟨i, hi, rfl⟩ := List.getElem_of_mem hs
    exact h3 i hi
  unfold worldB; rw [h1, decide_eq_true h2, this, apartB_iff.2 h4]; rfl
structure WorldOk (W : Wd) : Prop where
  rows : pairsB W.rows 100 10 = true
  many : W.ss.length ≤ 8
  sess : ∀ i (hi : i < W.ss.length), SessOk W.ss[i]
  apart : ∀ i (hi : i < W.ss.length), ∀ p ∈ W.ss[i].wr, heldB W.ss i p.1 = false
  all : (allL W).length ≤ 100
theorem worldB_iff {W : Wd} : worldB W = true ↔ WorldOk W := by
  constructor
  · intro h
    have h' := h
    unfold worldB at h'
    simp only [Bool.and_eq_true, decide_eq_true_eq] at h'
    obtain ⟨⟨h1, h2⟩, h3, h4, h5⟩ := h'
    exact ⟨h1, h2, fun i hi => sessB_iff.1 (List.all_eq_true.1 h3 _ (List.getElem_mem hi)), apartB_iff.1 h4, h5⟩
  · intro h
    rw [worldB_last h.rows h.many (fun i hi => sessB_iff.2 (h.sess i hi)) h.apart, decide_eq_true h.all]

end Go.Proofs.Ytpbaobmegomfpab

/-
  Plain mathematics: a map that counts the writers of each row.
-/
namespace Go.Proofs.Ytpbaobmegomfpab
open Go.RowKit Go.Maps
set_option linter.unusedVariables false

/-- a key as the map has it -/
def kl (s : ByteArray) : Lit := .string s.data.toList
theorem kl_ne {a b : ByteArray} (h : a ≠ b) : kl a ≠ kl b := fun e => h (by
  unfold kl at e
  injection e with e
  exact ba_ext e)
/-- how often a key occurs -/
def cntL (l : PL) (key : ByteArray) : Nat := (l.filter fun p => eqB p.1 key).length
theorem cntL_cons (p : ByteArray × ByteArray) (l : PL) (key : ByteArray) : cntL (p :: l) key = (if eqB p.1 key then 1 else 0) + cntL l key := by
  unfold cntL
  rw [List.filter_cons]
  split
  · rw [List.length_cons]; omega
  · omega
theorem cntL_append (l m : PL) (key : ByteArray) : cntL (l ++ m) key = cntL l key + cntL m key := by unfold cntL; rw [List.filter_append, List.length_append]
theorem cntL_le (l : PL) (key : ByteArray) : cntL l key ≤ l.length := by unfold cntL; exact List.length_filter_le _ _
theorem cntL_nil (key : ByteArray) : cntL [] key = 0 := rfl

structure MapOk (D : DataW Unit) (R : PL) (cnt : ByteArray → Nat) : Prop where
  size : Maps.size D = R.length
  has : ∀ key, Maps.has D (kl key) = (atL R key).isSome
  at_ : ∀ key, D.atKey (kl key) (.lit (.int .i64 0)) = .lit (.int .i64 (cnt key))
theorem mapOk_empty : MapOk (.map []) [] (fun _ => 0) := ⟨rfl, fun _ => rfl, fun _ => rfl⟩
theorem mapOk_put {D : DataW Unit} {R : PL} {cnt : ByteArray → Nat} {k v : ByteArray} {c : Nat} (h : MapOk D R cnt) (ht : Tidy D) (hr : risingB R = true) (hk : WideAt.IsKeyLit (kl k)) :
    MapOk (D.put (kl k) (.lit (.int .i64 c))) (insL R k v) (fun key => if eqB k key then c else cnt key) := by
  refine ⟨?_, fun key => ?_, fun key => ?_⟩
  · rw [size_put ht, h.has, ins_length hr, h.size]
  · rw [at_ins hr]
    cases e : eqB k key
    · rw [has_put_other (fun e' => kl_ne (eqB_false.1 e) e'.symm), h.has]; rfl
    · rw [← eqB_iff.1 e, has_put_same ht.isMap hk]; rfl
  · cases e : eqB k key
    · rw [atKey_put_other (fun e' => kl_ne (eqB_false.1 e) e'.symm), h.at_]; rfl
    · rw [← eqB_iff.1 e, atKey_put_same ht.isMap hk]; rfl
theorem MapOk.cnt {D : DataW Unit} {R : PL} {cnt cnt' : ByteArray → Nat} (h : MapOk D R cnt) (e : ∀ key, cnt key = cnt' key) : MapOk D R cnt' := ⟨h.size, h.has, fun key => by rw [h.at_, e]⟩
theorem ins_last {l : PL} {k v : ByteArray} (h : ∀ q ∈ l, ltB q.1 k = true) : insL l k v = l ++ [(k, v)] := by
  induction l with
  | nil => rfl
  | cons p l ih => rw [insL_lt (h p (by simp)), ih (fun q hq => h q (by simp [hq]))]; rfl
theorem ins_take {l : PL} (h : risingB l = true) {k : Nat} (hk : k < l.length) : insL (l.take k) l[k].1 l[k].2 = l.take (k + 1) := by
  rw [ins_last, List.take_succ_eq_append_getElem hk]
  intro q hq
  obtain ⟨j, hj, rfl⟩ := List.getElem_of_mem hq
  simp only [List.length_take] at hj
  rw [List.getElem_take]
  exact rising_lt h j k (by omega) hk
theorem rising_take {l : PL} (h : risingB l = true) (k : Nat) : risingB (l.take k) = true := by
  rw [risingB_iff] at h ⊢
  intro j hj
  simp only [List.length_take] at hj
  rw [List.getElem_take, List.getElem_take]
  exact h j (by omega)
theorem allF_ins {R : PL} (h : risingB R = true) (p : ByteArray × ByteArray) : plusL R p.1 ⟨#[]⟩ = insL R p.1 ⟨#[]⟩ := plus_ins h
end Go.Proofs.Ytpbaobmegomfpab

/-
  Plain mathematics: that no row has two writers, by counting.
-/
namespace Go.Proofs.Ytpbaobmegomfpab
open Go.RowKit
set_option linter.unusedVariables false

theorem cntL_rising : ∀ {l : PL} {key : ByteArray}, risingB l = true → cntL l key = if (atL l key).isSome then 1 else 0
  | [], _, _ => rfl
  | p :: l, key, h => by
    rw [cntL_cons, cntL_rising (rising_tail h)]
    cases e : eqB p.1 key
    · rw [atL_no e]; simp
    · have : atL l key = none := atL_none (fun q hq => eqB_false.2 (fun e' => ltB_ne (rising_head h q hq) (by rw [eqB_iff.1 e, e'])))
      rw [atL_yes e, this]; rfl
theorem cnt_flat_cons (s : Sess) (ss : List Sess) (key : ByteArray) : cntL ((s :: ss).flatMap (·.wr)) key = cntL s.wr key + cntL (ss.flatMap (·.wr)) key := by
  rw [List.flatMap_cons, cntL_append]
theorem cnt_one : ∀ {ss : List Sess} {key : ByteArray} {i : Nat} (hi : i < ss.length), cntL ss[i].wr key ≤ cntL (ss.flatMap (·.wr)) key
  | s :: ss, key, 0, _ => by rw [cnt_flat_cons]; simp
  | s :: ss, key, i + 1, hi => by
    have := cnt_one (key := key) (ss := ss) (i := i) (by simpa using hi)
    rw [cnt_flat_cons]; simp only [List.getElem_cons_succ]; omega
theorem cnt_two : ∀ {ss : List Sess} {key : ByteArray} {i j : Nat} (hi : i < j) (hj : j < ss.length), cntL (ss[i]'(by omega)).wr key + cntL ss[j].wr key ≤ cntL (ss.flatMap (·.wr)) key
  | s :: ss, key, 0, j + 1, _, hj => by
    have := cnt_one (key := key) (ss := ss) (i := j) (by simpa using hj)
    rw [cnt_flat_cons]; simp only [List.getElem_cons_succ, List.getElem_cons_zero]; omega
  | s :: ss, key, i + 1, j + 1, hi, hj => by
    have := cnt_two (key := key) (ss := ss) (i := i) (j := j) (by omega) (by simpa using hj)
    rw [cnt_flat_cons]; simp only [List.getElem_cons_succ]; omega
theorem cnt_pos : ∀ {ss : List Sess} {key : ByteArray}, 1 ≤ cntL (ss.flatMap (·.wr)) key → ∃ i, ∃ hi : i < ss.length, 1 ≤ cntL ss[i].wr key
  | [], key, h => by simp [cntL] at h
  | s :: ss, key, h => by
    rw [cnt_flat_cons] at h
    by_cases h0 : 1 ≤ cntL s.wr key
    · exact ⟨0, by simp, h0⟩
    · obtain ⟨i, hi, h1⟩ := cnt_pos (ss := ss) (key := key) (by omega)
      exact ⟨i + 1, by simpa using hi, h1⟩
theorem cnt_more : ∀ {ss : List Sess} {key : ByteArray}, (∀ i (hi : i < ss.length), cntL ss[i].wr key ≤ 1) → 2 ≤ cntL (ss.flatMap (·.wr)) key → ∃ i j, ∃ (hi : i < ss.length) (hj : j < ss.length), i ≠ j ∧ 1 ≤ cntL ss[i].wr key ∧ 1 ≤ cntL ss[j].wr key
  | [], key, _, h => by simp [cntL] at h
  | s :: ss, key, h1, h => by
    rw [cnt_flat_cons] at h
    have h0 := h1 0 (by simp)
    simp only [List.getElem_cons_zero] at h0
    by_cases hs : 1 ≤ cntL s.wr key
    · obtain ⟨j, hj, h2⟩ := cnt_pos (ss := ss) (key := key) (by omega)
      exact ⟨0, j + 1, by simp, by simpa using hj, by omega, hs, h2⟩
    · obtain ⟨i, j, hi, hj, hne, h2, h3⟩ := cnt_more (ss := ss) (key := key) (fun i hi => h1 (i + 1) (by simpa using hi)) (by omega)
      exact ⟨i + 1, j + 1, by simpa using hi, by simpa using hj, by omega, h2, h3⟩
/-- each row has at most one writer -/
def cntOk (W : Wd) : Bool := (W.ss.flatMap (·.wr)).all fun p => decide (cntL (W.ss.flatMap (·.wr)) p.1 ≤ 1)
theorem cntOk_no {W : Wd} {key : ByteArray} (h : 1 < cntL (W.ss.flatMap (·.wr)) key) : cntOk W = false := by
  unfold cntOk
  rw [List.all_eq_false]
  have : ∃ p ∈ W.ss.flatMap (·.wr), eqB p.1 key = true := by
    have h' : 0 < ((W.ss.flatMap (·.wr)).filter fun p => eqB p.1 key).length := by unfold cntL at h; omega
    obtain ⟨p, hp⟩ := List.exists_mem_of_length_pos h'
    rw [List.mem_filter] at hp
    exact ⟨p, hp.1, hp.2⟩
  obtain ⟨p, hp, he⟩ := this
  refine ⟨p, hp, ?_⟩
  rw [eqB_iff.1 he]
  simp; omega
theorem cntOk_yes {W : Wd} (h : ∀ key, cntL (W.ss.flatMap (·.wr)) key ≤ 1) : cntOk W = true := by
  unfold cntOk
  rw [List.all_eq_true]
  intro p _
  exact decide_eq_true (h p.1)
theorem some_cnt {l : PL} {key : ByteArray} (hr : risingB l = true) : 1 ≤ cntL l key ↔ (atL l key).isSome = true := by
  rw [cntL_rising hr]
  cases (atL l key).isSome <;> simp
theorem cnt_rising_le {l : PL} {key : ByteArray} (hr : risingB l = true) : cntL l key ≤ 1 := by rw [cntL_rising hr]; split <;> omega
theorem cntOk_apart {W : Wd} (hr : ∀ i (hi : i < W.ss.length), risingB W.ss[i].wr = true) : cntOk W = apartB W.ss := by
  cases h : apartB W.ss
  · -- two sessions
    have : ¬ ∀ i (hi : i < W.ss.length), ∀ p ∈ W.ss[i].wr, heldB W.ss i p.1 = false := fun hn => by rw [apartB_iff.2 hn] at h; cases h
    apply Classical.byContradiction
    intro hc
    have hc : cntOk W = true := by cases e : cntOk W with | true => rfl | false => exact absurd e hc
    apply this
    intro i hi p hp
    cases e : heldB W.ss i p.1
    · rfl
    · obtain ⟨k, hk, hs, hne⟩ := heldB_iff.1 e
      have h1 := (some_cnt (hr k hk)).2 hs
      have h2 := (some_cnt (hr i hi)).2 (atL_of_mem hp)
      have h3 : 2 ≤ cntL (W.ss.flatMap (·.wr)) p.1 := by
        rcases Nat.lt_or_gt_of_ne (show k ≠ i by omega) with hlt | hlt
        · have := cnt_two (key := p.1) hlt hi; omega
        · have := cnt_two (key := p.1) hlt hk; omega
      rw [cntOk_no (key := p.1) (by omega)] at hc; cases hc
  · have ha := apartB_iff.1 h
    refine cntOk_yes fun key => ?_
    apply Classical.byContradiction
    intro hc
    obtain ⟨i, j, hi, hj, hne, h1, h2⟩ := cnt_more (key := key) (fun i hi => cnt_rising_le (hr i hi)) (show 2 ≤ cntL (W.ss.flatMap (·.wr)) key by omega)
    have s1 := (some_cnt (hr i hi)).1 h1
    have s2 := (some_cnt (hr j hj)).1 h2
    obtain ⟨v, hv⟩ := Option.isSome_iff_exists.1 s1
    have := ha i hi _ (atL_mem hv)
    rw [heldB_yes hj s2 (by omega)] at this
    cases this

end Go.Proofs.Ytpbaobmegomfpab

