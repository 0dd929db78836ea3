/-
  Plain mathematics: the text of a statement, read again.
-/
import Derived.Test.YtpbaobmegomfpaaDoorMath3
namespace Go.Proofs.YtpbaobmegomfpaaDoor
open Go.RowKit

theorem blank_app {l r : List UInt8} (h : ∀ c ∈ l, c ≠ 32) : blank (l ++ 32 :: r) = l.length := by
  induction l with
  | nil => rfl
  | cons c l ih =>
    have h1 := h c (by simp)
    rw [List.cons_append, blank, if_neg (by simpa using h1), ih (fun d hd => h d (by simp [hd]))]
    rfl
theorem blank_none {l : List UInt8} (h : ∀ c ∈ l, c ≠ 32) : blank l = l.length := by
  induction l with
  | nil => rfl
  | cons c l ih =>
    have h1 := h c (by simp)
    rw [blank, if_neg (by simpa using h1), ih (fun d hd => h d (by simp [hd]))]
    rfl
theorem blank_split (l : List UInt8) (h : blank l < l.length) : l = l.take (blank l) ++ 32 :: l.drop (blank l + 1) := by
  induction l with
  | nil => simp at h
  | cons c l ih =>
    by_cases hc : (c == 32) = true
    · have e : blank (c :: l) = 0 := by rw [blank, if_pos hc]
      rw [e]
      have : c = 32 := by simpa using hc
      simp [this]
    · have e : blank (c :: l) = blank l + 1 := by rw [blank, if_neg hc]
      rw [e] at h ⊢
      have h2 := ih (by simpa using h)
      simp only [List.take_succ_cons, List.drop_succ_cons, List.cons_append]
      rw [← h2]

theorem cutA_list (s : ByteArray) : (cutA s).data.toList = s.data.toList.take (cutI s) := by
  unfold cutA; rw [Lib.extract_data]; simp
theorem cutB_list (s : ByteArray) : (cutB s).data.toList = s.data.toList.drop (cutI s + 1) := by
  unfold cutB; rw [Lib.extract_data, List.take_of_length_le]; simp
theorem cut_of {s : ByteArray} {l r : List UInt8} (hs : s.data.toList = l ++ 32 :: r) (h : ∀ c ∈ l, c ≠ 32) :
    cutI s = l.length ∧ (cutA s).data.toList = l ∧ (cutB s).data.toList = r ∧ cutF s = true := by
  have e : cutI s = l.length := by unfold cutI; rw [hs, blank_app h]
  have hz : s.size = s.data.toList.length := by simp
  refine ⟨e, ?_, ?_, ?_⟩
  · rw [cutA_list, e, hs, List.take_left' rfl]
  · rw [cutB_list, e, hs, List.drop_append]; simp
  · unfold cutF; rw [e, hz, hs]; simp
theorem cut_not {s : ByteArray} (h : ∀ c ∈ s.data.toList, c ≠ 32) : cutI s = s.size ∧ cutA s = s ∧ cutB s = ⟨#[]⟩ ∧ cutF s = false := by
  have e : cutI s = s.size := by unfold cutI; rw [blank_none h]; simp
  exact ⟨e, cutA_all e, cutB_none e, by unfold cutF; rw [e]; simp⟩
theorem cut_join {s : ByteArray} (h : cutF s = true) : s.data.toList = (cutA s).data.toList ++ 32 :: (cutB s).data.toList := by
  unfold cutF at h
  simp only [decide_eq_true_eq] at h
  rw [cutA_list, cutB_list]
  exact blank_split s.data.toList (by simpa [cutI] using h)
theorem cut_whole {s : ByteArray} (h : cutF s = false) : cutA s = s ∧ cutB s = ⟨#[]⟩ := by
  unfold cutF at h
  simp only [decide_eq_false_iff_not] at h
  have e : cutI s = s.size := by have := cutI_le s; omega
  exact ⟨cutA_all e, cutB_none e⟩

theorem wordL_clean : ∀ k, k ≤ 11 → ∀ c ∈ wordL k, c ≠ 32 := by decide
theorem bndB_clean {lo hi lim : Nat} {s : ByteArray} (h : bndB lo hi lim s = true) (hlo : 32 < lo) : ∀ c ∈ s.data.toList, c ≠ 32 := by
  unfold bndB at h
  simp only [Bool.and_eq_true, decide_eq_true_eq, List.all_eq_true] at h
  intro c hc e
  have := h.2 c hc
  subst e
  have h32 : (32 : UInt8).toNat = 32 := rfl
  omega

theorem prepB_38 {v : ByteArray} (h : prepB v = true) : v.size ≤ 38 := by
  unfold prepB at h
  simp only [Bool.and_eq_true, decide_eq_true_eq] at h
  have a1 := cut_total v
  have a2 := cut_total (cutB v)
  have a3 := kind_size (t := v) (by omega)
  have a4 := bndB_size h.2.2.1
  have a5 := plainV_size h.2.2.2
  omega
/-- more of a good statement -/
theorem good_more {k : Int} {key v : ByteArray} (h : checkE k key v = 0) : v.size ≤ 38 ∧ ∀ c ∈ key.data.toList, c ≠ 32 := by
  by_cases hk : k < 1 ∨ 11 < k
  · rw [checkE_kind hk] at h; cases h
  · cases h1 : keyB k key
    · rw [checkE_key hk h1] at h; cases h
    · cases h2 : valueB k v
      · rw [checkE_value hk h2] at h; cases h
      · constructor
        · unfold valueB at h2
          split at h2
          · exact prepB_38 h2
          · have := plainV_size h2; omega
        · by_cases h6 : 6 ≤ k ∧ k ≤ 11
          · rw [keyB_yes h6] at h1
            exact bndB_clean h1 (by omega)
          · rw [keyB_no h6] at h1
            have := isEmpty_size h1
            intro c hc
            have e : key.data.toList.length = 0 := by simpa using this
            rw [List.length_eq_zero_iff.1 e] at hc
            cases hc
theorem size_list (s : ByteArray) : s.size = s.data.toList.length := by simp
theorem text_list_12 (k : Nat) (key v : ByteArray) : ((wordAt k ++ (⟨#[32]⟩ ++ key)) ++ (⟨#[32]⟩ ++ v)).data.toList = wordL k ++ 32 :: (key.data.toList ++ 32 :: v.data.toList) := by
  simp [ByteArray.data_append, wordAt]
theorem text_list_9 (k : Nat) (key : ByteArray) : (wordAt k ++ (⟨#[32]⟩ ++ key)).data.toList = wordL k ++ 32 :: key.data.toList := by
  simp [ByteArray.data_append, wordAt]
theorem kindN_at {k : Nat} (h1 : 1 ≤ k) (h2 : k ≤ 11) {s : ByteArray} (h : s.data.toList = wordL k) : kindN s = k := kindN_hit h1 h2 h.symm
theorem empty_eq {s : ByteArray} (h : s.toList.isEmpty = true) : s = ⟨#[]⟩ := by
  rw [Lib.toList_data, List.isEmpty_iff] at h
  exact ba_ext (by rw [h])

/-- reading the text of a good statement gives it back -/
theorem read_text {k : Nat} {key v : ByteArray} (h : checkE k key v = 0) :
    kindN (cutA (textOf k key v)) = k ∧ cutA (cutB (textOf k key v)) = key ∧ cutB (cutB (textOf k key v)) = v ∧ readE (textOf k key v) = 0 := by
  obtain ⟨g1, g2, g3, g4, g5, g6⟩ := good_of h
  obtain ⟨g7, g8⟩ := good_more h
  have hw := wordL_len k (by omega)
  have hwc := wordL_clean k (by omega)
  by_cases h6 : k < 6
  · rw [decide_eq_true (by omega)] at g5 g6
    have e1 := empty_eq g5
    have e2 := empty_eq g6
    subst e1 e2
    rw [textOf_6 h6]
    obtain ⟨c1, c2, c3, c4⟩ := cut_not (s := wordAt k) (by rw [wordAt_toList]; exact hwc)
    have hk : kindN (cutA (wordAt k)) = k := by rw [c2]; exact kindN_at (by omega) (by omega) (wordAt_toList k)
    have hp := cutF_parts c4
    have hE := splitE_zero (t := wordAt k) (by omega) (splitBad_none c4)
    refine ⟨hk, hp.1, hp.2, ?_⟩
    rw [readE_check (by have := size_list (wordAt k); rw [wordAt_toList] at this; omega) hE, hk, hp.1, hp.2]
    exact h
  · by_cases h9 : k < 9
    · rw [decide_eq_true (by omega)] at g6
      rw [decide_eq_false (by omega)] at g5
      have e2 := empty_eq g6
      subst e2
      rw [textOf_9 h6 h9]
      have hl := text_list_9 k key
      generalize hT : wordAt k ++ (⟨#[32]⟩ ++ key) = T at hl ⊢
      obtain ⟨c1, c2, c3, c4⟩ := cut_of hl hwc
      have hk : kindN (cutA T) = k := kindN_at (by omega) (by omega) c2
      have hB : cutB T = key := ba_ext c3
      obtain ⟨d1, d2, d3, d4⟩ := cut_not g8
      rw [hB, d2, d3]
      have hE := splitE_zero (t := T) (by omega) (by unfold splitBad; rw [hB, d2, d3, c4, d4, g5]; rfl)
      refine ⟨hk, rfl, rfl, ?_⟩
      have hz := size_list T
      rw [hl] at hz
      have hzk := size_list key
      rw [readE_check (by simp at hz; omega) hE, hk, hB, d2, d3]
      exact h
    · rw [decide_eq_false (by omega)] at g5 g6
      rw [textOf_12 h9]
      have hl := text_list_12 k key v
      generalize hT : (wordAt k ++ (⟨#[32]⟩ ++ key)) ++ (⟨#[32]⟩ ++ v) = T at hl ⊢
      obtain ⟨c1, c2, c3, c4⟩ := cut_of hl hwc
      have hk : kindN (cutA T) = k := kindN_at (by omega) (by omega) c2
      obtain ⟨d1, d2, d3, d4⟩ := cut_of c3 g8
      have hA : cutA (cutB T) = key := ba_ext d2
      have hB : cutB (cutB T) = v := ba_ext d3
      rw [hA, hB]
      have hE := splitE_zero (t := T) (by omega) (by unfold splitBad; rw [hA, hB, c4, d4, g5, g6]; rfl)
      refine ⟨hk, rfl, rfl, ?_⟩
      have hz := size_list T
      rw [hl] at hz
      have hzk := size_list key
      have hzv := size_list v
      rw [readE_check (by simp at hz; omega) hE, hk, hA, hB]
      exact h

/-- a text that was read is the text of the statement -/
theorem text_read {s : ByteArray} (h : readE s = 0) : checkE (kindN (cutA s)) (cutA (cutB s)) (cutB (cutB s)) = 0 ∧ textOf (kindN (cutA s)) (cutA (cutB s)) (cutB (cutB s)) = s := by
  have hl : ¬ 60 < s.size := fun hl => by rw [readE_long hl] at h; cases h
  have hsp : splitE s = 0 := Classical.byContradiction fun hs => by rw [readE_split hl hs] at h; exact hs h
  have hc := readE_check hl hsp
  rw [h] at hc
  refine ⟨hc.symm, ?_⟩
  obtain ⟨g1, g2, g3, g4, g5, g6⟩ := good_of hc.symm
  obtain ⟨h0, hb⟩ := splitE_ok hsp
  have hw := kindN_word (s := cutA s) (by omega)
  have hwA : (wordAt (kindN (cutA s))).data.toList = (cutA s).data.toList := by rw [wordAt_toList, hw]
  unfold splitBad at hb
  cases f1 : cutF s
  · have hp := cutF_parts f1
    rw [hp.1] at g5
    have h6 : kindN (cutA s) < 6 := by
      rw [empty_of rfl] at g5
      have := of_decide_eq_true g5.symm
      omega
    rw [textOf_6 h6]
    apply ba_ext
    rw [hwA, (cut_whole f1).1]
  · rw [f1] at hb
    have hk : (cutA (cutB s)).toList.isEmpty = false := by
      cases e : (cutA (cutB s)).toList.isEmpty
      · rfl
      · rw [e] at hb; simp at hb
    rw [hk] at g5
    have h6 : ¬ kindN (cutA s) < 6 := by
      have := of_decide_eq_false g5.symm
      omega
    have hj := cut_join f1
    cases f2 : cutF (cutB s)
    · have hw2 := cut_whole f2
      rw [hw2.2] at g6
      have h9 : kindN (cutA s) < 9 := by
        rw [empty_of rfl] at g6
        have := of_decide_eq_true g6.symm
        omega
      rw [textOf_9 h6 h9]
      apply ba_ext
      rw [text_list_9, hw, hw2.1]
      exact hj.symm
    · rw [f2, hk] at hb
      have hv : (cutB (cutB s)).toList.isEmpty = false := by
        cases e : (cutB (cutB s)).toList.isEmpty
        · rfl
        · rw [e] at hb; simp at hb
      rw [hv] at g6
      have h9 : ¬ kindN (cutA s) < 9 := by
        have := of_decide_eq_false g6.symm
        omega
      rw [textOf_12 h9]
      apply ba_ext
      rw [text_list_12, hw, ← cut_join f2]
      exact hj.symm

end Go.Proofs.YtpbaobmegomfpaaDoor
