/-
  Texts of the proof of PoolSetups, one behind the other: BackM5, Math5, BackDo, BackPut, BackKeep, Math4, PoolM.
-/
import Derived.Test.YtpbaobmegomfpabM1
/-
  Plain mathematics: the place of a key in an ordered list.
-/
namespace Go.Proofs.Ytpbaobmegomfpab
open Go.RowKit
set_option linter.unusedVariables false

/-- where a key is, or where it belongs -/
def posL : PL → ByteArray → Nat
  | [], _ => 0
  | p :: l, k => if ltB p.1 k then posL l k + 1 else 0
/-- is it there? -/
def fndL (l : PL) (k : ByteArray) : Bool := (atL l k).isSome
theorem posL_lt {p : ByteArray × ByteArray} {l : PL} {k : ByteArray} (h : ltB p.1 k = true) : posL (p :: l) k = posL l k + 1 := by rw [posL, if_pos h]
theorem posL_ge {p : ByteArray × ByteArray} {l : PL} {k : ByteArray} (h : ltB p.1 k = false) : posL (p :: l) k = 0 := by rw [posL, if_neg (by simp [h])]
theorem posL_le : ∀ (l : PL) (k : ByteArray), posL l k ≤ l.length
  | [], _ => Nat.le_refl _
  | p :: l, k => by
    have := posL_le l k
    unfold posL; split <;> simp <;> omega
theorem pos_before : ∀ {l : PL} {k : ByteArray} {j : Nat} (hj : j < l.length), j < posL l k → ltB l[j].1 k = true
  | p :: l, k, j, hj, h => by
    cases e : ltB p.1 k
    · rw [posL_ge e] at h; omega
    · rw [posL_lt e] at h
      cases j with
      | zero => exact e
      | succ j => exact pos_before (l := l) (by simpa using hj) (by omega)
theorem pos_after : ∀ {l : PL} {k : ByteArray} {j : Nat}, risingB l = true → (hj : j < l.length) → posL l k ≤ j → ltB l[j].1 k = false
  | p :: l, k, j, hr, hj, h => by
    cases e : ltB p.1 k
    · cases j with
      | zero => exact e
      | succ j =>
        have hj' : j < l.length := by simpa using hj
        have h1 := rising_head hr l[j] (List.getElem_mem hj')
        show ltB l[j].1 k = false
        cases e2 : ltB l[j].1 k
        · rfl
        · rw [ltB_trans h1 e2] at e; cases e
    · rw [posL_lt e] at h
      cases j with
      | zero => omega
      | succ j => exact pos_after (l := l) (rising_tail hr) (by simpa using hj) (by omega)
theorem fnd_none : ∀ {l : PL} {k : ByteArray}, risingB l = true → l.length ≤ posL l k → fndL l k = false
  | [], _, _, _ => rfl
  | p :: l, k, hr, h => by
    cases e : ltB p.1 k
    · rw [posL_ge e] at h; simp at h
    · rw [posL_lt e] at h
      unfold fndL
      rw [atL_no (eqB_false.2 (ltB_ne e))]
      exact fnd_none (rising_tail hr) (by simpa using h)
theorem fnd_at : ∀ {l : PL} {k : ByteArray}, risingB l = true → (h : posL l k < l.length) → fndL l k = eqB (l[posL l k]).1 k ∧ (fndL l k = true → atL l k = some (l[posL l k]).2)
  | p :: l, k, hr, h => by
    cases e : ltB p.1 k
    · have hp := posL_ge (l := l) e
      simp only [hp, List.getElem_cons_zero]
      cases e2 : eqB p.1 k
      · have hk := lt_of_not e e2
        have : fndL (p :: l) k = false := by
          unfold fndL
          rw [atL_no e2, atL_none (fun q hq => eqB_false.2 (fun e' => ltB_ne (ltB_trans hk (rising_head hr q hq)) e'.symm))]; rfl
        exact ⟨this, fun h => by rw [this] at h; cases h⟩
      · have : fndL (p :: l) k = true := by unfold fndL; rw [atL_yes e2]; rfl
        exact ⟨this, fun _ => atL_yes e2⟩
    · have hp := posL_lt (l := l) e
      have e2 : eqB p.1 k = false := eqB_false.2 (ltB_ne e)
      have hl : posL l k < l.length := by rw [hp] at h; simpa using h
      obtain ⟨h1, h2⟩ := fnd_at (rising_tail hr) hl
      have hf : fndL (p :: l) k = fndL l k := by unfold fndL; rw [atL_no e2]
      simp only [hp, List.getElem_cons_succ]
      exact ⟨hf.trans h1, fun h => by rw [atL_no e2]; exact h2 (hf ▸ h)⟩
theorem fnd_pos {l : PL} {k : ByteArray} (hr : risingB l = true) (h : fndL l k = true) : posL l k < l.length := by
  apply Classical.byContradiction
  intro hn
  rw [fnd_none hr (by omega)] at h; cases h
theorem ins_found : ∀ {l : PL} {k v : ByteArray}, risingB l = true → fndL l k = true → insL l k v = l.set (posL l k) (k, v)
  | [], _, _, _, h => by cases h
  | p :: l, k, v, hr, h => by
    cases e : ltB p.1 k
    · rw [posL_ge e]
      have hl := fnd_at hr (by rw [posL_ge e]; simp)
      rw [h] at hl
      simp only [posL_ge (l := l) e, List.getElem_cons_zero] at hl
      rw [insL_eq e hl.1.symm, List.set_cons_zero]
    · rw [posL_lt e, insL_lt e, List.set_cons_succ, ins_found (rising_tail hr)]
      unfold fndL at h ⊢
      rwa [atL_no (eqB_false.2 (ltB_ne e))] at h
theorem ins_new : ∀ {l : PL} {k v : ByteArray}, risingB l = true → fndL l k = false → insL l k v = l.take (posL l k) ++ (k, v) :: l.drop (posL l k)
  | [], _, _, _, _ => rfl
  | p :: l, k, v, hr, h => by
    cases e : ltB p.1 k
    · rw [posL_ge e]
      have hl := fnd_at hr (by rw [posL_ge e]; simp)
      rw [h] at hl
      simp only [posL_ge (l := l) e, List.getElem_cons_zero] at hl
      rw [insL_gt e hl.1.symm]; rfl
    · rw [posL_lt e, insL_lt e, ins_new (rising_tail hr)]
      · rfl
      · unfold fndL at h ⊢
        rwa [atL_no (eqB_false.2 (ltB_ne e))] at h

end Go.Proofs.Ytpbaobmegomfpab

/-
  Plain mathematics: the text of a statement, read again.
-/
namespace Go.Proofs.Ytpbaobmegomfpab
open Go.RowKit

theorem blank_app {l r : List UInt8} (h : ∀ c ∈ l, c ≠ 32) : blank (l ++ 32 :: r) = l.length := by
  induction l with
  | nil => rfl
  | cons c l ih =>
    have h1 := h c (by simp)
    rw [List.cons_append, blank, if_neg (by simpa using h1), ih (fun d hd => h d (by simp [hd]))]
    rfl
theorem blank_none {l : List UInt8} (h : ∀ c ∈ l, c ≠ 32) : blank l = l.length := by
  induction l with
  | nil => rfl
  | cons c l ih =>
    have h1 := h c (by simp)
    rw [blank, if_neg (by simpa using h1), ih (fun d hd => h d (by simp [hd]))]
    rfl
theorem blank_split (l : List UInt8) (h : blank l < l.length) : l = l.take (blank l) ++ 32 :: l.drop (blank l + 1) := by
  induction l with
  | nil => simp at h
  | cons c l ih =>
    by_cases hc : (c == 32) = true
    · have e : blank (c :: l) = 0 := by rw [blank, if_pos hc]
      rw [e]
      have : c = 32 := by simpa using hc
      simp [this]
    · have e : blank (c :: l) = blank l + 1 := by rw [blank, if_neg hc]
      rw [e] at h ⊢
      have h2 := ih (by simpa using h)
      simp only [List.take_succ_cons, List.drop_succ_cons, List.cons_append]
      rw [← h2]

theorem cutA_list (s : ByteArray) : (cutA s).data.toList = s.data.toList.take (cutI s) := by
  unfold cutA; rw [Lib.extract_data]; simp
theorem cutB_list (s : ByteArray) : (cutB s).data.toList = s.data.toList.drop (cutI s + 1) := by
  unfold cutB; rw [Lib.extract_data, List.take_of_length_le]; simp
theorem cut_of {s : ByteArray} {l r : List UInt8} (hs : s.data.toList = l ++ 32 :: r) (h : ∀ c ∈ l, c ≠ 32) :
    cutI s = l.length ∧ (cutA s).data.toList = l ∧ (cutB s).data.toList = r ∧ cutF s = true := by
  have e : cutI s = l.length := by unfold cutI; rw [hs, blank_app h]
  have hz : s.size = s.data.toList.length := by simp
  refine ⟨e, ?_, ?_, ?_⟩
  · rw [cutA_list, e, hs, List.take_left' rfl]
  · rw [cutB_list, e, hs, List.drop_append]; simp
  · unfold cutF; rw [e, hz, hs]; simp
theorem cut_not {s : ByteArray} (h : ∀ c ∈ s.data.toList, c ≠ 32) : cutI s = s.size ∧ cutA s = s ∧ cutB s = ⟨#[]⟩ ∧ cutF s = false := by
  have e : cutI s = s.size := by unfold cutI; rw [blank_none h]; simp
  exact ⟨e, cutA_all e, cutB_none e, by unfold cutF; rw [e]; simp⟩
theorem cut_join {s : ByteArray} (h : cutF s = true) : s.data.toList = (cutA s).data.toList ++ 32 :: (cutB s).data.toList := by
  unfold cutF at h
  simp only [decide_eq_true_eq] at h
  rw [cutA_list, cutB_list]
  exact blank_split s.data.toList (by simpa [cutI] using h)
theorem cut_whole {s : ByteArray} (h : cutF s = false) : cutA s = s ∧ cutB s = ⟨#[]⟩ := by
  unfold cutF at h
  simp only [decide_eq_false_iff_not] at h
  have e : cutI s = s.size := by have := cutI_le s; omega
  exact ⟨cutA_all e, cutB_none e⟩

theorem wordL_clean : ∀ k, k ≤ 11 → ∀ c ∈ wordL k, c ≠ 32 := by decide
theorem bndB_clean {lo hi lim : Nat} {s : ByteArray} (h : bndB lo hi lim s = true) (hlo : 32 < lo) : ∀ c ∈ s.data.toList, c ≠ 32 := by
  unfold bndB at h
  simp only [Bool.and_eq_true, decide_eq_true_eq, List.all_eq_true] at h
  intro c hc e
  have := h.2 c hc
  subst e
  have h32 : (32 : UInt8).toNat = 32 := rfl
  omega

theorem prepB_38 {v : ByteArray} (h : prepB v = true) : v.size ≤ 38 := by
  unfold prepB at h
  simp only [Bool.and_eq_true, decide_eq_true_eq] at h
  have a1 := cut_total v
  have a2 := cut_total (cutB v)
  have a3 := kind_size (t := v) (by omega)
  have a4 := bndB_size h.2.2.1
  have a5 := plainV_size h.2.2.2
  omega
/-- more of a good statement -/
theorem good_more {k : Int} {key v : ByteArray} (h : checkE k key v = 0) : v.size ≤ 38 ∧ ∀ c ∈ key.data.toList, c ≠ 32 := by
  by_cases hk : k < 1 ∨ 11 < k
  · rw [checkE_kind hk] at h; cases h
  · cases h1 : keyB k key
    · rw [checkE_key hk h1] at h; cases h
    · cases h2 : valueB k v
      · rw [checkE_value hk h2] at h; cases h
      · constructor
        · unfold valueB at h2
          split at h2
          · exact prepB_38 h2
          · have := plainV_size h2; omega
        · by_cases h6 : 6 ≤ k ∧ k ≤ 11
          · rw [keyB_yes h6] at h1
            exact bndB_clean h1 (by omega)
          · rw [keyB_no h6] at h1
            have := isEmpty_size h1
            intro c hc
            have e : key.data.toList.length = 0 := by simpa using this
            rw [List.length_eq_zero_iff.1 e] at hc
            cases hc
theorem size_list (s : ByteArray) : s.size = s.data.toList.length := by simp
theorem text_list_12 (k : Nat) (key v : ByteArray) : ((wordAt k ++ (⟨#[32]⟩ ++ key)) ++ (⟨#[32]⟩ ++ v)).data.toList = wordL k ++ 32 :: (key.data.toList ++ 32 :: v.data.toList) := by
  simp [ByteArray.data_append, wordAt]
theorem text_list_9 (k : Nat) (key : ByteArray) : (wordAt k ++ (⟨#[32]⟩ ++ key)).data.toList = wordL k ++ 32 :: key.data.toList := by
  simp [ByteArray.data_append, wordAt]
theorem kindN_at {k : Nat} (h1 : 1 ≤ k) (h2 : k ≤ 11) {s : ByteArray} (h : s.data.toList = wordL k) : kindN s = k := kindN_hit h1 h2 h.symm
theorem empty_eq {s : ByteArray} (h : s.toList.isEmpty = true) : s = ⟨#[]⟩ := by
  rw [Lib.toList_data, List.isEmpty_iff] at h
  exact ba_ext (by rw [h])

/-- reading the text of a good statement gives it back -/
theorem read_text {k : Nat} {key v : ByteArray} (h : checkE k key v = 0) :
    kindN (cutA (textOf k key v)) = k ∧ cutA (cutB (textOf k key v)) = key ∧ cutB (cutB (textOf k key v)) = v ∧ readE (textOf k key v) = 0 := by
  obtain ⟨g1, g2, g3, g4, g5, g6⟩ := good_of h
  obtain ⟨g7, g8⟩ := good_more h
  have hw := wordL_len k (by omega)
  have hwc := wordL_clean k (by omega)
  by_cases h6 : k < 6
  · rw [decide_eq_true (by omega)] at g5 g6
    have e1 := empty_eq g5
    have e2 := empty_eq g6
    subst e1 e2
    rw [textOf_6 h6]
    obtain ⟨c1, c2, c3, c4⟩ := cut_not (s := wordAt k) (by rw [wordAt_toList]; exact hwc)
    have hk : kindN (cutA (wordAt k)) = k := by rw [c2]; exact kindN_at (by omega) (by omega) (wordAt_toList k)
    have hp := cutF_parts c4
    have hE := splitE_zero (t := wordAt k) (by omega) (splitBad_none c4)
    refine ⟨hk, hp.1, hp.2, ?_⟩
    rw [readE_check (by have := size_list (wordAt k); rw [wordAt_toList] at this; omega) hE, hk, hp.1, hp.2]
    exact h
  · by_cases h9 : k < 9
    · rw [decide_eq_true (by omega)] at g6
      rw [decide_eq_false (by omega)] at g5
      have e2 := empty_eq g6
      subst e2
      rw [textOf_9 h6 h9]
      have hl := text_list_9 k key
      generalize hT : wordAt k ++ (⟨#[32]⟩ ++ key) = T at hl ⊢
      obtain ⟨c1, c2, c3, c4⟩ := cut_of hl hwc
      have hk : kindN (cutA T) = k := kindN_at (by omega) (by omega) c2
      have hB : cutB T = key := ba_ext c3
      obtain ⟨d1, d2, d3, d4⟩ := cut_not g8
      rw [hB, d2, d3]
      have hE := splitE_zero (t := T) (by omega) (by unfold splitBad; rw [hB, d2, d3, c4, d4, g5]; rfl)
      refine ⟨hk, rfl, rfl, ?_⟩
      have hz := size_list T
      rw [hl] at hz
      have hzk := size_list key
      rw [readE_check (by simp at hz; omega) hE, hk, hB, d2, d3]
      exact h
    · rw [decide_eq_false (by omega)] at g5 g6
      rw [textOf_12 h9]
      have hl := text_list_12 k key v
      generalize hT : (wordAt k ++ (⟨#[32]⟩ ++ key)) ++ (⟨#[32]⟩ ++ v) = T at hl ⊢
      obtain ⟨c1, c2, c3, c4⟩ := cut_of hl hwc
      have hk : kindN (cutA T) = k := kindN_at (by omega) (by omega) c2
      obtain ⟨d1, d2, d3, d4⟩ := cut_of c3 g8
      have hA : cutA (cutB T) = key := ba_ext d2
      have hB : cutB (cutB T) = v := ba_ext d3
      rw [hA, hB]
      have hE := splitE_zero (t := T) (by omega) (by unfold splitBad; rw [hA, hB, c4, d4, g5, g6]; rfl)
      refine ⟨hk, rfl, rfl, ?_⟩
      have hz := size_list T
      rw [hl] at hz
      have hzk := size_list key
      have hzv := size_list v
      rw [readE_check (by simp at hz; omega) hE, hk, hA, hB]
      exact h

/-- a text that was read is the text of the statement -/
theorem text_read {s : ByteArray} (h : readE s = 0) : checkE (kindN (cutA s)) (cutA (cutB s)) (cutB (cutB s)) = 0 ∧ textOf (kindN (cutA s)) (cutA (cutB s)) (cutB (cutB s)) = s := by
  have hl : ¬ 60 < s.size := fun hl => by rw [readE_long hl] at h; cases h
  have hsp : splitE s = 0 := Classical.byContradiction fun hs => by rw [readE_split hl hs] at h; exact hs h
  have hc := readE_check hl hsp
  rw [h] at hc
  refine ⟨hc.symm, ?_⟩
  obtain ⟨g1, g2, g3, g4, g5, g6⟩ := good_of hc.symm
  obtain ⟨h0, hb⟩ := splitE_ok hsp
  have hw := kindN_word (s := cutA s) (by omega)
  have hwA : (wordAt (kindN (cutA s))).data.toList = (cutA s).data.toList := by rw [wordAt_toList, hw]
  unfold splitBad at hb
  cases f1 : cutF s
  · have hp := cutF_parts f1
    rw [hp.1] at g5
    have h6 : kindN (cutA s) < 6 := by
      rw [empty_of rfl] at g5
      have := of_decide_eq_true g5.symm
      omega
    rw [textOf_6 h6]
    apply ba_ext
    rw [hwA, (cut_whole f1).1]
  · rw [f1] at hb
    have hk : (cutA (cutB s)).toList.isEmpty = false := by
      cases e : (cutA (cutB s)).toList.isEmpty
      · rfl
      · rw [e] at hb; simp at hb
    rw [hk] at g5
    have h6 : ¬ kindN (cutA s) < 6 := by
      have := of_decide_eq_false g5.symm
      omega
    have hj := cut_join f1
    cases f2 : cutF (cutB s)
    · have hw2 := cut_whole f2
      rw [hw2.2] at g6
      have h9 : kindN (cutA s) < 9 := by
        rw [empty_of rfl] at g6
        have := of_decide_eq_true g6.symm
        omega
      rw [textOf_9 h6 h9]
      apply ba_ext
      rw [text_list_9, hw, hw2.1]
      exact hj.symm
    · rw [f2, hk] at hb
      have hv : (cutB (cutB s)).toList.isEmpty = false := by
        cases e : (cutB (cutB s)).toList.isEmpty
        · rfl
        · rw [e] at hb; simp at hb
      rw [hv] at g6
      have h9 : ¬ kindN (cutA s) < 9 := by
        have := of_decide_eq_false g6.symm
        omega
      rw [textOf_12 h9]
      apply ba_ext
      rw [text_list_12, hw, ← cut_join f2]
      exact hj.symm

end Go.Proofs.Ytpbaobmegomfpab

/-
  Plain mathematics: what a statement does in a session of a world (P2.2 to P2.4).
-/
namespace Go.Proofs.Ytpbaobmegomfpab
open Go.RowKit
set_option linter.unusedVariables false

/-- the texts of errors -/
def tFailed : ByteArray := ⟨#[102, 97, 105, 108, 101, 100, 32, 97, 108, 114, 101, 97, 100, 121]⟩
def tBegun : ByteArray := ⟨#[98, 101, 103, 117, 110, 32, 97, 108, 114, 101, 97, 100, 121]⟩
def tNoTx : ByteArray := ⟨#[110, 111, 32, 116, 114, 97, 110, 115, 97, 99, 116, 105, 111, 110]⟩
def tNotIn : ByteArray := ⟨#[110, 111, 116, 32, 105, 110, 32, 97, 32, 116, 114, 97, 110, 115, 97, 99, 116, 105, 111, 110]⟩
def tAsked : ByteArray := ⟨#[97, 115, 32, 97, 115, 107, 101, 100]⟩
def tNotPrep : ByteArray := ⟨#[110, 111, 116, 32, 112, 114, 101, 112, 97, 114, 101, 100]⟩
def tFull : ByteArray := ⟨#[102, 117, 108, 108]⟩
def tHeld : ByteArray := ⟨#[104, 101, 108, 100]⟩
/-- what is answered: its kind and its text -/
structure Ans where
  kind : Int
  text : ByteArray
def no' (t : ByteArray) : Ans := ⟨4, t⟩
def ok' : Ans := ⟨1, ⟨#[]⟩⟩
def fnd' (o : Option ByteArray) : Ans := match o with
  | some v => ⟨2, v⟩
  | none => ⟨3, ⟨#[]⟩⟩
/-- the session i, and a world with another session there -/
def Wd.at (W : Wd) (i : Nat) : Sess := W.ss.getD i ⟨0, [], [], [], []⟩
def Wd.put (W : Wd) (i : Nat) (s : Sess) : Wd := ⟨W.rows, W.ss.set i s⟩
/-- all pairs of a list stored in another -/
def plusF (rows l : PL) : PL := l.foldl (fun a p => plusL a p.1 p.2) rows
/-- a statement that is no Exec -/
def did1 (W : Wd) (i : Nat) (k : Int) (key val : ByteArray) : Wd × Ans :=
  let s := W.at i
  if s.st = 2 ∧ ¬ (k = 2 ∨ k = 3) then (W, no' tFailed)
  else if k = 1 then (if s.st = 0 then (W.put i { s with st := 1, sav := s.set }, ok') else (W, no' tBegun))
  else if k = 2 ∨ k = 3 then
    (if s.st = 0 then (W, no' tNoTx)
     else if k = 2 ∧ s.st = 1 then (⟨plusF W.rows s.wr, W.ss.set i { s with st := 0, sav := [], wr := [] }⟩, ok')
     else (W.put i { s with st := 0, set := s.sav, sav := [], wr := [] }, ok'))
  else if k = 4 then (if s.st = 0 then (W.put i { s with set := [], prep := [] }, ok') else (W, no' tNotIn))
  else if k = 6 then (W, fnd' (atL s.set key))
  else if k = 7 then (W, fnd' (match atL s.wr key with | some v => some v | none => atL W.rows key))
  else if k = 9 then (if fndL s.set key = false ∧ 6 ≤ s.set.length then (W, no' tFull) else (W.put i { s with set := plusL s.set key val }, ok'))
  else if k = 10 then
    (if heldB W.ss i key = true then (W, no' tHeld)
     else if fndL (allL W) key = false ∧ 100 ≤ (allL W).length then (W, no' tFull)
     else if s.st = 1 then (W.put i { s with wr := plusL s.wr key val }, ok')
     else (⟨plusL W.rows key val, W.ss⟩, ok'))
  else if k = 11 then (if fndL s.prep key = false ∧ 6 ≤ s.prep.length then (W, no' tFull) else (W.put i { s with prep := plusL s.prep key val }, ok'))
  else (W, no' tAsked)
/-- a statement -/
def didM (W : Wd) (i : Nat) (k : Int) (key val : ByteArray) : Wd × Ans :=
  if k = 8 then
    (if (W.at i).st = 2 then (W, no' tFailed)
     else match atL (W.at i).prep key with
      | none => (W, no' tNotPrep)
      | some t => did1 W i (kindN (cutA t)) (cutA (cutB t)) (cutB (cutB t)))
  else did1 W i k key val
/-- P2.2: an Error in a transaction fails it -/
def doM (W : Wd) (i : Nat) (k : Int) (key val : ByteArray) : Wd × Ans :=
  let r := didM W i k key val
  if r.2.kind = 4 ∧ (r.1.at i).st = 1 then (r.1.put i { r.1.at i with st := 2, wr := [] }, r.2) else r
/-- the errors of Do -/
def doE (W : Wd) (i : Int) (k : Int) (key val : ByteArray) : Int :=
  if worldB W = false then 5 else if i < 0 ∨ (W.ss.length : Int) ≤ i then 6 else checkE k key val

/-- an Error has left the world as it was -/
def Keeps (W : Wd) (r : Wd × Ans) : Prop := r.2.kind = 4 → r.1 = W
theorem keeps_ite {W : Wd} {c : Prop} [Decidable c] {a b : Wd × Ans} (ha : Keeps W a) (hb : Keeps W b) : Keeps W (if c then a else b) := by
  split
  · exact ha
  · exact hb
theorem keeps_same (W : Wd) (a : Ans) : Keeps W (W, a) := fun _ => rfl
theorem keeps_ok (W V : Wd) : Keeps W (V, ok') := fun h => absurd h (by show ¬ ((1 : Int) = 4); decide)
theorem did1_keeps (W : Wd) (i : Nat) (k : Int) (key val : ByteArray) : Keeps W (did1 W i k key val) := by
  unfold did1
  simp only
  repeat' first
    | exact keeps_same _ _
    | exact keeps_ok _ _
    | refine keeps_ite ?_ ?_
theorem didM_keeps (W : Wd) (i : Nat) (k : Int) (key val : ByteArray) : Keeps W (didM W i k key val) := by
  unfold didM
  refine keeps_ite (keeps_ite (keeps_same _ _) ?_) (did1_keeps _ _ _ _ _)
  split
  · exact keeps_same _ _
  · exact did1_keeps _ _ _ _ _

/-- the strings and the lists of a world that may be are short -/
def Sz60 (l : PL) : Prop := l.length ≤ 100 ∧ ∀ p ∈ l, p.1.size ≤ 8 ∧ p.2.size ≤ 60
theorem pairsB_sz {l : PL} {most : Nat} {kind : Int} (hm : most ≤ 100) (h : pairsB l most kind = true) : Sz60 l := by
  obtain ⟨_, h2, h3⟩ := pairsB_rising h
  refine ⟨by omega, fun p hp => ?_⟩
  have hg := good_of (h3 p hp)
  exact ⟨hg.key8, hg.v60⟩

end Go.Proofs.Ytpbaobmegomfpab

/-
  Plain mathematics: a Put in a world that may be.
-/
namespace Go.Proofs.Ytpbaobmegomfpab
open Go.RowKit
set_option linter.unusedVariables false

/-- an ordered list whose keys are all in another is no longer -/
theorem sub_len : ∀ {R l : PL}, risingB R = true → risingB l = true → (∀ p ∈ l, fndL R p.1 = true) → l.length ≤ R.length
  | [], [], _, _, _ => Nat.le_refl _
  | [], p :: l, _, _, h => by have := h p (by simp); cases this
  | q :: R, [], _, _, _ => by simp
  | q :: R, p :: l, hR, hl, h => by
    have tail : ∀ x, ltB q.1 x = true → fndL (q :: R) x = true → fndL R x = true := fun x hx hf => by
      unfold fndL at hf ⊢
      rwa [atL_no (eqB_false.2 (ltB_ne hx))] at hf
    have hp := h p (by simp)
    cases e : eqB q.1 p.1
    · -- the head of R is before p
      have hqp : ltB q.1 p.1 = true := by
        unfold fndL at hp
        rw [atL_no e] at hp
        obtain ⟨v, hv⟩ := Option.isSome_iff_exists.1 hp
        exact rising_head hR (p.1, v) (atL_mem hv)
      have := sub_len (R := R) (l := p :: l) (rising_tail hR) hl (fun x hx => by
        refine tail x.1 ?_ (h x hx)
        rcases List.mem_cons.1 hx with rfl | hx
        · exact hqp
        · exact ltB_trans hqp (rising_head hl x hx))
      simp only [List.length_cons] at this ⊢; omega
    · have heq := eqB_iff.1 e
      have := sub_len (R := R) (l := l) (rising_tail hR) (rising_tail hl) (fun x hx => tail x.1 (by rw [heq]; exact rising_head hl x hx) (h x (by simp [hx])))
      simp only [List.length_cons]; omega
theorem fnd_ins {l : PL} {k v k' : ByteArray} (h : risingB l = true) : fndL (insL l k v) k' = (eqB k k' || fndL l k') := by
  unfold fndL
  rw [at_ins h]
  cases eqB k k' <;> simp
theorem sub_less {R l : PL} {k : ByteArray} (hR : risingB R = true) (hl : risingB l = true) (h : ∀ p ∈ l, fndL R p.1 = true) (hk : fndL R k = true) (hn : fndL l k = false) : l.length < R.length := by
  have h1 := sub_len (l := insL l k ⟨#[]⟩) hR (ins_rising hl) (fun p hp => by
    rcases ins_mem hp with rfl | hp
    · exact hk
    · exact h p hp)
  have hn' : ¬ (atL l k).isSome = true := by unfold fndL at hn; simp [hn]
  rw [ins_length hl, if_neg hn'] at h1
  omega
theorem allF_rising {R : PL} (h : risingB R = true) : ∀ l : PL, risingB (allF R l) = true := by
  intro l
  unfold allF
  induction l generalizing R with
  | nil => exact h
  | cons p l ih => rw [List.foldl_cons]; exact ih (by rw [plus_ins h]; exact ins_rising h)
theorem allF_fnd {R : PL} {k : ByteArray} (h : risingB R = true) : ∀ l : PL, fndL (allF R l) k = (fndL R k || fndL l k) := by
  intro l
  unfold allF
  induction l generalizing R with
  | nil => simp [fndL, atL]
  | cons p l ih =>
    rw [List.foldl_cons, ih (by rw [plus_ins h]; exact ins_rising h), plus_ins h, fnd_ins h]
    have : fndL (p :: l) k = (eqB p.1 k || fndL l k) := by
      unfold fndL
      cases e : eqB p.1 k
      · rw [atL_no e]; simp
      · rw [atL_yes e]; simp
    rw [this]
    cases eqB p.1 k <;> cases fndL R k <;> simp
theorem fnd_of_mem {l : PL} {p : ByteArray × ByteArray} (h : p ∈ l) : fndL l p.1 = true := atL_of_mem h

section
variable {W : Wd} (h : WorldOk W)
include h
theorem all_rising : risingB (allL W) = true := allF_rising (pairsB_rising h.rows).1 _
theorem all_rows {p : ByteArray × ByteArray} (hp : p ∈ W.rows) : fndL (allL W) p.1 = true := by
  unfold allL; rw [allF_fnd (pairsB_rising h.rows).1, fnd_of_mem hp]; rfl
theorem all_wr {i : Nat} (hi : i < W.ss.length) {p : ByteArray × ByteArray} (hp : p ∈ W.ss[i].wr) : fndL (allL W) p.1 = true := by
  unfold allL
  rw [allF_fnd (pairsB_rising h.rows).1, fnd_of_mem (List.mem_flatMap.2 ⟨W.ss[i], List.getElem_mem hi, hp⟩)]
  simp
theorem held_cnt {i : Nat} (hi : i < W.ss.length) (key : ByteArray) : heldB W.ss i key = (decide (0 < cntL (W.ss.flatMap (·.wr)) key) && !fndL W.ss[i].wr key) := by
  have hr : ∀ k (hk : k < W.ss.length), risingB W.ss[k].wr = true := fun k hk => (pairsB_rising (h.sess k hk).wr).1
  cases e : heldB W.ss i key
  · symm
    rw [Bool.and_eq_false_iff]
    by_cases hc : 0 < cntL (W.ss.flatMap (·.wr)) key
    · right
      obtain ⟨k, hk, h1⟩ := cnt_pos (ss := W.ss) (key := key) hc
      have hs := (some_cnt (hr k hk)).1 h1
      by_cases hki : k = i
      · subst hki; unfold fndL; rw [hs]; rfl
      · rw [heldB_yes hk hs (by omega)] at e; cases e
    · left; exact decide_eq_false hc
  · obtain ⟨k, hk, hs, hne⟩ := heldB_iff.1 e
    have h1 := (some_cnt (hr k hk)).2 hs
    have h2 := cnt_one (key := key) hk
    have h3 : fndL W.ss[i].wr key = false := by
      cases e2 : fndL W.ss[i].wr key
      · rfl
      · obtain ⟨v, hv⟩ := Option.isSome_iff_exists.1 e2
        have := h.apart i hi _ (atL_mem hv)
        rw [e] at this; cases this
    rw [h3, decide_eq_true (by omega)]; rfl
/-- there is room in the Writes -/
theorem room_wr {i : Nat} (hi : i < W.ss.length) {key : ByteArray} (hf : ¬ (fndL (allL W) key = false ∧ 100 ≤ (allL W).length)) : fndL W.ss[i].wr key = true ∨ W.ss[i].wr.length < 100 := by
  cases e : fndL W.ss[i].wr key
  · right
    have hr := (pairsB_rising (h.sess i hi).wr).1
    cases e2 : fndL (allL W) key
    · have := sub_len (all_rising h) hr (fun p hp => all_wr h hi hp)
      have h3 : ¬ 100 ≤ (allL W).length := fun h3 => hf ⟨e2, h3⟩
      omega
    · have := sub_less (all_rising h) hr (fun p hp => all_wr h hi hp) e2 e
      have := h.all
      omega
  · exact .inl rfl
/-- there is room in the Rows -/
theorem room_rows {key : ByteArray} (hf : ¬ (fndL (allL W) key = false ∧ 100 ≤ (allL W).length)) : fndL W.rows key = true ∨ W.rows.length < 100 := by
  cases e : fndL W.rows key
  · right
    have hr := (pairsB_rising h.rows).1
    cases e2 : fndL (allL W) key
    · have := sub_len (all_rising h) hr (fun p hp => all_rows h hp)
      have h3 : ¬ 100 ≤ (allL W).length := fun h3 => hf ⟨e2, h3⟩
      omega
    · have := sub_less (all_rising h) hr (fun p hp => all_rows h hp) e2 e
      have := h.all
      omega
  · exact .inl rfl
end
end Go.Proofs.Ytpbaobmegomfpab

/-
  Plain mathematics: a statement leaves a world that may be (P2.1, P2.2).
-/
namespace Go.Proofs.Ytpbaobmegomfpab
open Go.RowKit
set_option linter.unusedVariables false

theorem fnd_append (l m : PL) (k : ByteArray) : fndL (l ++ m) k = (fndL l k || fndL m k) := by
  induction l with
  | nil => simp [fndL, atL]
  | cons p l ih =>
    unfold fndL at ih ⊢
    rw [List.cons_append]
    cases e : eqB p.1 k
    · rw [atL_no e, atL_no e]; exact ih
    · rw [atL_yes e, atL_yes e]; simp
theorem fnd_flat (ss : List Sess) (k : ByteArray) : fndL (ss.flatMap (·.wr)) k = ss.any (fun s => fndL s.wr k) := by
  induction ss with
  | nil => simp [fndL, atL]
  | cons s ss ih => rw [List.flatMap_cons, fnd_append, ih]; simp
theorem fnd_all {W : Wd} (h : risingB W.rows = true) (k : ByteArray) : fndL (allL W) k = (fndL W.rows k || W.ss.any (fun s => fndL s.wr k)) := by
  unfold allL; rw [allF_fnd h, fnd_flat]
theorem any_get {ss : List Sess} {f : Sess → Bool} : ss.any f = true ↔ ∃ k, ∃ hk : k < ss.length, f ss[k] = true := by
  rw [List.any_eq_true]
  constructor
  · rintro ⟨s, hs, h⟩
    obtain ⟨k, hk, rfl⟩ := List.getElem_of_mem hs
    exact ⟨k, hk, h⟩
  · rintro ⟨k, hk, h⟩; exact ⟨_, List.getElem_mem hk, h⟩
theorem plusF_up {R : PL} (h : risingB R = true) : ∀ l : PL, risingB (plusF R l) = true := by
  intro l
  unfold plusF
  induction l generalizing R with
  | nil => exact h
  | cons p l ih => rw [List.foldl_cons]; exact ih (by rw [plus_ins h]; exact ins_rising h)
theorem plusF_fnd {R : PL} {k : ByteArray} (h : risingB R = true) : ∀ l : PL, fndL (plusF R l) k = (fndL R k || fndL l k) := by
  intro l
  unfold plusF
  induction l generalizing R with
  | nil => simp [fndL, atL]
  | cons p l ih =>
    rw [List.foldl_cons, ih (by rw [plus_ins h]; exact ins_rising h), plus_ins h, fnd_ins h]
    have : fndL (p :: l) k = (eqB p.1 k || fndL l k) := by
      unfold fndL
      cases e : eqB p.1 k
      · rw [atL_no e]; simp
      · rw [atL_yes e]; simp
    rw [this]
    cases eqB p.1 k <;> cases fndL R k <;> simp
theorem plusF_mem {q : ByteArray × ByteArray} : ∀ {l R : PL}, q ∈ plusF R l → q ∈ R ∨ q ∈ l
  | [], R, h => .inl h
  | p :: l, R, h => by
    unfold plusF at h
    rw [List.foldl_cons] at h
    rcases plusF_mem (l := l) (R := plusL R p.1 p.2) h with h | h
    · rcases plusL_mem h with h | h
      · exact .inr (by rw [h]; simp)
      · exact .inl h
    · exact .inr (by simp [h])
theorem pairsB_mk {l : PL} {most : Nat} {kind : Int} (h1 : risingB l = true) (h2 : l.length ≤ most) (h3 : ∀ p ∈ l, checkE kind p.1 p.2 = 0) : pairsB l most kind = true := by
  unfold pairsB
  rw [h1, decide_eq_true h2, Bool.and_true, Bool.and_true, List.all_eq_true]
  exact fun p hp => decide_eq_true (h3 p hp)
theorem pairsB_nil (most : Nat) (kind : Int) : pairsB [] most kind = true := pairsB_mk rfl (Nat.zero_le _) (fun _ h => by cases h)
/-- one pair more where there is room -/
theorem pairsB_plus {l : PL} {most : Nat} {kind : Int} {key val : ByteArray} (h : pairsB l most kind = true) (hc : checkE kind key val = 0) (hr : fndL l key = true ∨ l.length < most) : pairsB (plusL l key val) most kind = true := by
  obtain ⟨h1, h2, h3⟩ := pairsB_rising h
  rw [plus_ins h1]
  refine pairsB_mk (ins_rising h1) ?_ (fun p hp => ?_)
  · rw [ins_length h1]
    rcases hr with hr | hr
    · unfold fndL at hr; rw [if_pos hr]; exact h2
    · split <;> omega
  · rcases ins_mem hp with rfl | hp
    · exact hc
    · exact h3 p hp
theorem fnd_plus {l : PL} {k v k' : ByteArray} (h : risingB l = true) : fndL (plusL l k v) k' = (eqB k k' || fndL l k') := by rw [plus_ins h, fnd_ins h]

section
variable {W : Wd} {i : Nat} {s' : Sess}
theorem wput_len (W : Wd) (i : Nat) (s' : Sess) : (W.put i s').ss.length = W.ss.length := by unfold Wd.put; simp
theorem wput_get (hi : i < W.ss.length) {k : Nat} (hk : k < (W.put i s').ss.length) : (W.put i s').ss[k] = if i = k then s' else W.ss[k]'(by rw [wput_len] at hk; exact hk) := by
  simp only [Wd.put]
  rw [List.getElem_set]
theorem held_put (hi : i < W.ss.length) (hs : ∀ k, fndL s'.wr k = true → fndL W.ss[i].wr k = true) {me : Int} {key : ByteArray} (h : heldB W.ss me key = false) : heldB (W.put i s').ss me key = false := by
  refine heldB_no fun k hk hf => Classical.byContradiction fun hne => ?_
  rw [wput_get hi hk] at hf
  have hk' : k < W.ss.length := by rw [wput_len] at hk; exact hk
  have : (atL W.ss[k].wr key).isSome = true := by
    by_cases e : i = k
    · subst e; rw [if_pos rfl] at hf; exact hs key hf
    · rw [if_neg e] at hf; exact hf
  rw [heldB_yes hk' this hne] at h; cases h
theorem any_put (hi : i < W.ss.length) {key : ByteArray} (h : (W.put i s').ss.any (fun s => fndL s.wr key) = true) : fndL s'.wr key = true ∨ W.ss.any (fun s => fndL s.wr key) = true := by
  obtain ⟨k, hk, hf⟩ := any_get.1 h
  rw [wput_get hi hk] at hf
  have hk' : k < W.ss.length := by rw [wput_len] at hk; exact hk
  by_cases e : i = k
  · rw [if_pos e] at hf; exact .inl hf
  · rw [if_neg e] at hf; exact .inr (any_get.2 ⟨k, hk', hf⟩)
theorem all_len {W' : Wd} (h : WorldOk W) (hr : risingB W'.rows = true) (hf : ∀ k, fndL (allL W') k = true → fndL (allL W) k = true) : (allL W').length ≤ 100 :=
  Nat.le_trans (sub_len (all_rising h) (allF_rising hr _) (fun p hp => hf p.1 (fnd_of_mem hp))) h.all
theorem all_more {W' : Wd} (h : WorldOk W) (hr : risingB W'.rows = true) {key : ByteArray} (hn : ¬ (fndL (allL W) key = false ∧ 100 ≤ (allL W).length)) (hf : ∀ k, fndL (allL W') k = true → eqB key k = true ∨ fndL (allL W) k = true) : (allL W').length ≤ 100 := by
  have h1 := sub_len (R := insL (allL W) key ⟨#[]⟩) (ins_rising (all_rising h)) (allF_rising hr (W'.ss.flatMap (·.wr))) (fun p hp => by
    rw [fnd_ins (all_rising h)]
    rcases hf p.1 (fnd_of_mem hp) with h | h
    · rw [h]; rfl
    · rw [h]; simp)
  rw [ins_length (all_rising h)] at h1
  have h2 := h.all
  have h3 : (allL W').length = (allF W'.rows (W'.ss.flatMap (·.wr))).length := rfl
  cases e : fndL (allL W) key
  · unfold fndL at e
    rw [e] at h1
    have h4 : ¬ 100 ≤ (allL W).length := fun hh => hn ⟨e, hh⟩
    simp at h1
    omega
  · unfold fndL at e
    rw [e] at h1
    simp at h1
    omega
/-- session i has turned, and its Writes are no more than they were -/
theorem wput_ok (h : WorldOk W) (hi : i < W.ss.length) (hs : SessOk s') (hw : ∀ p ∈ s'.wr, p ∈ W.ss[i].wr) : WorldOk (W.put i s') := by
  have hf : ∀ k, fndL s'.wr k = true → fndL W.ss[i].wr k = true := fun k hk => by
    obtain ⟨v, hv⟩ := Option.isSome_iff_exists.1 hk
    exact atL_of_mem (hw _ (atL_mem hv))
  refine ⟨h.rows, by rw [wput_len]; exact h.many, fun k hk => ?_, fun k hk p hp => ?_, ?_⟩
  · rw [wput_get hi hk]
    split
    · exact hs
    · exact h.sess k _
  · have hk' : k < W.ss.length := by rw [wput_len] at hk; exact hk
    rw [wput_get hi hk] at hp
    refine held_put hi hf (h.apart k hk' p ?_)
    by_cases e : i = k
    · subst e; rw [if_pos rfl] at hp; exact hw p hp
    · rw [if_neg e] at hp; exact hp
  · have hr := (pairsB_rising h.rows).1
    refine all_len h hr fun k hk => ?_
    rw [fnd_all (W := W.put i s') hr] at hk
    rw [fnd_all hr]
    rw [Bool.or_eq_true] at hk ⊢
    rcases hk with hk | hk
    · exact .inl hk
    · right
      rcases any_put hi hk with h1 | h1
      · exact any_get.2 ⟨i, hi, hf k h1⟩
      · exact h1
/-- the session that a statement stores a row in -/
theorem put_wr_ok (h : WorldOk W) (hi : i < W.ss.length) {key val : ByteArray} (hst : W.ss[i].st = 1) (hc : checkE 10 key val = 0) (hh : heldB W.ss i key = false) (hn : ¬ (fndL (allL W) key = false ∧ 100 ≤ (allL W).length)) :
    WorldOk (W.put i { W.ss[i] with wr := plusL W.ss[i].wr key val }) := by
  have hs := h.sess i hi
  have hrw := (pairsB_rising hs.wr).1
  have hr := (pairsB_rising h.rows).1
  refine ⟨h.rows, by rw [wput_len]; exact h.many, fun k hk => ?_, fun k hk p hp => ?_, ?_⟩
  · rw [wput_get hi hk]
    split
    · exact ⟨hs.lo, hs.hi, hs.set, hs.prep, hs.sav, pairsB_plus hs.wr hc (room_wr h hi hn), hs.idle, fun hne => absurd hst hne⟩
    · exact h.sess k _
  · have hk' : k < W.ss.length := by rw [wput_len] at hk; exact hk
    rw [wput_get hi hk] at hp
    refine heldB_no fun m hm hf => Classical.byContradiction fun hne => ?_
    have hm' : m < W.ss.length := by rw [wput_len] at hm; exact hm
    rw [wput_get hi hm] at hf
    by_cases e : i = k
    · subst e
      rw [if_pos rfl] at hp
      rw [if_neg (by omega)] at hf
      rw [plus_ins hrw] at hp
      rcases ins_mem hp with rfl | hp
      · rw [heldB_yes hm' hf hne] at hh; cases hh
      · have := h.apart i hi p hp
        rw [heldB_yes hm' hf hne] at this; cases this
    · rw [if_neg e] at hp
      have hap := h.apart k hk' p hp
      by_cases e2 : i = m
      · subst e2
        rw [if_pos rfl] at hf
        have hf : fndL (plusL W.ss[i].wr key val) p.1 = true := hf
        rw [fnd_plus hrw, Bool.or_eq_true] at hf
        rcases hf with hf | hf
        · rw [eqB_iff.1 hf, heldB_yes hk' (atL_of_mem hp) (by omega)] at hh; cases hh
        · rw [heldB_yes hi hf hne] at hap; cases hap
      · rw [if_neg e2] at hf
        rw [heldB_yes hm' hf hne] at hap; cases hap
  · refine all_more h hr hn fun k hk => ?_
    rw [fnd_all (W := W.put i _) hr, Bool.or_eq_true] at hk
    rw [fnd_all hr, Bool.or_eq_true]
    rcases hk with hk | hk
    · exact .inr (.inl hk)
    · rcases any_put hi hk with h1 | h1
      · have h1 : fndL (plusL W.ss[i].wr key val) k = true := h1
        rw [fnd_plus hrw, Bool.or_eq_true] at h1
        rcases h1 with h1 | h1
        · exact .inl h1
        · exact .inr (.inr (any_get.2 ⟨i, hi, h1⟩))
      · exact .inr (.inr h1)
theorem put_row_ok (h : WorldOk W) {key val : ByteArray} (hc : checkE 10 key val = 0) (hn : ¬ (fndL (allL W) key = false ∧ 100 ≤ (allL W).length)) : WorldOk ⟨plusL W.rows key val, W.ss⟩ := by
  have hr := (pairsB_rising h.rows).1
  have hp := pairsB_plus h.rows hc (room_rows h hn)
  have hr' := (pairsB_rising hp).1
  refine ⟨hp, h.many, h.sess, h.apart, all_more h hr' hn fun k hk => ?_⟩
  rw [fnd_all (W := ⟨plusL W.rows key val, W.ss⟩) hr', Bool.or_eq_true] at hk
  rw [fnd_all hr, Bool.or_eq_true]
  rcases hk with hk | hk
  · have hk : fndL (plusL W.rows key val) k = true := hk
    rw [fnd_plus hr, Bool.or_eq_true] at hk
    rcases hk with hk | hk
    · exact .inl hk
    · exact .inr (.inl hk)
  · exact .inr (.inr hk)
theorem rows_put_len (R : PL) (W : Wd) (i : Nat) (s' : Sess) : (⟨R, W.ss.set i s'⟩ : Wd).ss.length = W.ss.length := by simp
theorem commit_ok (h : WorldOk W) (hi : i < W.ss.length) : WorldOk ⟨plusF W.rows W.ss[i].wr, W.ss.set i { W.ss[i] with st := 0, sav := [], wr := [] }⟩ := by
  have hs := h.sess i hi
  have hr := (pairsB_rising h.rows).1
  have hr' := plusF_up hr W.ss[i].wr
  have hq := wput_ok (s' := { W.ss[i] with st := 0, sav := [], wr := [] }) h hi ⟨Int.le_refl _, (by show (0 : Int) ≤ 2; decide), hs.set, hs.prep, pairsB_nil _ _, pairsB_nil _ _, fun _ => rfl, fun _ => rfl⟩ (fun p hp => by cases hp)
  have hall : ∀ k, fndL (allL ⟨plusF W.rows W.ss[i].wr, W.ss.set i { W.ss[i] with st := 0, sav := [], wr := [] }⟩) k = true → fndL (allL W) k = true := fun k hk => by
    rw [fnd_all (W := ⟨plusF W.rows W.ss[i].wr, _⟩) hr', Bool.or_eq_true] at hk
    rw [fnd_all hr, Bool.or_eq_true]
    rcases hk with hk | hk
    · have hk : fndL (plusF W.rows W.ss[i].wr) k = true := hk
      rw [plusF_fnd hr, Bool.or_eq_true] at hk
      rcases hk with hk | hk
      · exact .inl hk
      · exact .inr (any_get.2 ⟨i, hi, hk⟩)
    · right
      rcases any_put (W := W) (s' := { W.ss[i] with st := 0, sav := [], wr := [] }) hi hk with h1 | h1
      · cases h1
      · exact h1
  refine ⟨pairsB_mk hr' ?_ (fun p hp => ?_), hq.many, hq.sess, hq.apart, all_len h hr' hall⟩
  · have := sub_len (all_rising h) hr' (fun p hp => by
      have hf := fnd_of_mem hp
      rw [plusF_fnd hr, Bool.or_eq_true] at hf
      rw [fnd_all hr, Bool.or_eq_true]
      rcases hf with hf | hf
      · exact .inl hf
      · exact .inr (any_get.2 ⟨i, hi, hf⟩))
    have := h.all
    show (plusF W.rows W.ss[i].wr).length ≤ 100
    omega
  · rcases plusF_mem hp with hp | hp
    · exact (pairsB_rising h.rows).2.2 p hp
    · exact (pairsB_rising hs.wr).2.2 p hp

/-- a world that may be, with as many sessions -/
def Fine (W : Wd) (r : Wd × Ans) : Prop := WorldOk r.1 ∧ r.1.ss.length = W.ss.length
theorem fine_ite {c : Prop} [Decidable c] {a b : Wd × Ans} (ha : c → Fine W a) (hb : ¬ c → Fine W b) : Fine W (if c then a else b) := by
  by_cases h : c
  · rw [if_pos h]; exact ha h
  · rw [if_neg h]; exact hb h
theorem did1_ok (h : WorldOk W) (hi : i < W.ss.length) {k : Int} {key val : ByteArray} (hc : checkE k key val = 0) : Fine W (did1 W i k key val) := by
  have hs := h.sess i hi
  have e : W.at i = W.ss[i] := by unfold Wd.at; rw [List.getD_eq_getElem?_getD, List.getElem?_eq_getElem hi]; rfl
  have same : ∀ a, Fine W (W, a) := fun a => ⟨h, rfl⟩
  unfold did1
  simp only
  rw [e]
  refine fine_ite (fun _ => same _) (fun hfail => ?_)
  refine fine_ite (fun _ => fine_ite (fun _ => ?_) (fun _ => same _)) (fun _ => ?_)
  · exact ⟨wput_ok h hi ⟨(by show (0 : Int) ≤ 1; decide), (by show (1 : Int) ≤ 2; decide), hs.set, hs.prep, hs.set, hs.wr, (fun hh => absurd hh (by show ¬ (1 : Int) = 0; decide)), fun hh => absurd rfl hh⟩ (fun p hp => hp), wput_len _ _ _⟩
  refine fine_ite (fun _ => fine_ite (fun _ => same _) (fun _ => fine_ite (fun _ => ?_) (fun _ => ?_))) (fun _ => ?_)
  · exact ⟨commit_ok h hi, by simp⟩
  · exact ⟨wput_ok h hi ⟨Int.le_refl _, (by show (0 : Int) ≤ 2; decide), hs.sav, hs.prep, pairsB_nil _ _, pairsB_nil _ _, fun _ => rfl, fun _ => rfl⟩ (fun p hp => by cases hp), wput_len _ _ _⟩
  refine fine_ite (fun _ => fine_ite (fun _ => ?_) (fun _ => same _)) (fun _ => ?_)
  · exact ⟨wput_ok h hi ⟨hs.lo, hs.hi, pairsB_nil _ _, pairsB_nil _ _, hs.sav, hs.wr, hs.idle, hs.tx⟩ (fun p hp => hp), wput_len _ _ _⟩
  refine fine_ite (fun _ => same _) (fun _ => fine_ite (fun _ => same _) (fun _ => ?_))
  refine fine_ite (fun h9 => fine_ite (fun _ => same _) (fun hn => ?_)) (fun _ => ?_)
  · subst h9
    refine ⟨wput_ok h hi ⟨hs.lo, hs.hi, pairsB_plus hs.set hc ?_, hs.prep, hs.sav, hs.wr, hs.idle, hs.tx⟩ (fun p hp => hp), wput_len _ _ _⟩
    cases e : fndL W.ss[i].set key
    · exact .inr (Nat.lt_of_not_le fun hh => hn ⟨e, hh⟩)
    · exact .inl rfl
  refine fine_ite (fun h10 => fine_ite (fun _ => same _) (fun hh => fine_ite (fun _ => same _) (fun hn => fine_ite (fun h1 => ?_) (fun _ => ?_)))) (fun _ => ?_)
  · subst h10
    exact ⟨put_wr_ok h hi h1 hc (by simpa using hh) hn, wput_len _ _ _⟩
  · subst h10
    exact ⟨put_row_ok h hc hn, rfl⟩
  refine fine_ite (fun h11 => fine_ite (fun _ => same _) (fun hn => ?_)) (fun _ => same _)
  subst h11
  refine ⟨wput_ok h hi ⟨hs.lo, hs.hi, hs.set, pairsB_plus hs.prep hc ?_, hs.sav, hs.wr, hs.idle, hs.tx⟩ (fun p hp => hp), wput_len _ _ _⟩
  cases e : fndL W.ss[i].prep key
  · exact .inr (Nat.lt_of_not_le fun hh => hn ⟨e, hh⟩)
  · exact .inl rfl
/-- what was prepared is a statement -/
theorem prep_stmt {l : PL} (h : pairsB l 6 11 = true) {key t : ByteArray} (ha : atL l key = some t) : readE t = 0 ∧ checkE (kindN (cutA t)) (cutA (cutB t)) (cutB (cutB t)) = 0 ∧ (kindN (cutA t) = 6 ∨ kindN (cutA t) = 7 ∨ kindN (cutA t) = 10) := by
  have hc := (pairsB_rising h).2.2 _ (atL_mem ha)
  have hv : prepB t = true := by
    unfold checkE at hc
    rw [if_neg (by decide)] at hc
    split at hc
    · rename_i hh
      rw [Bool.and_eq_true] at hh
      have := hh.2
      unfold valueB at this
      rwa [if_pos rfl] at this
    · cases hc
  rw [prepB_read, Bool.and_eq_true, decide_eq_true_eq, decide_eq_true_eq] at hv
  exact ⟨hv.1, (text_read hv.1).1, hv.2⟩
theorem didM_ok (h : WorldOk W) (hi : i < W.ss.length) {k : Int} {key val : ByteArray} (hc : checkE k key val = 0) : Fine W (didM W i k key val) := by
  have hs := h.sess i hi
  have e : W.at i = W.ss[i] := by unfold Wd.at; rw [List.getD_eq_getElem?_getD, List.getElem?_eq_getElem hi]; rfl
  unfold didM
  simp only [e]
  split
  · split
    · exact ⟨h, rfl⟩
    split
    · exact ⟨h, rfl⟩
    · rename_i t ht
      exact did1_ok h hi (prep_stmt hs.prep ht).2.1
  · exact did1_ok h hi hc
theorem doM_ok (h : WorldOk W) (hi : i < W.ss.length) {k : Int} {key val : ByteArray} (hc : checkE k key val = 0) : Fine W (doM W i k key val) := by
  obtain ⟨h1, h2⟩ := didM_ok h hi hc
  unfold doM
  simp only
  split
  · have hi' : i < (didM W i k key val).1.ss.length := by omega
    have e : (didM W i k key val).1.at i = (didM W i k key val).1.ss[i] := by unfold Wd.at; rw [List.getD_eq_getElem?_getD, List.getElem?_eq_getElem hi']; rfl
    have hs := h1.sess i hi'
    rw [e]
    exact ⟨wput_ok h1 hi' ⟨(by show (0 : Int) ≤ 2; decide), (by show (2 : Int) ≤ 2; decide), hs.set, hs.prep, hs.sav, pairsB_nil _ _, (fun hh => absurd hh (by show ¬ (2 : Int) = 0; decide)), fun _ => rfl⟩ (fun p hp => by cases hp), by rw [wput_len]; exact h2⟩
  · exact ⟨h1, h2⟩
end
end Go.Proofs.Ytpbaobmegomfpab

/-
  Plain mathematics: answers as texts.
-/
namespace Go.Proofs.Ytpbaobmegomfpab
open Go.RowKit

def leadL : Nat → List UInt8
  | 1 => [111, 107]
  | 2 => [61]
  | 3 => [110, 111, 110, 101]
  | 4 => [33]
  | _ => []
def leadAt (k : Nat) : ByteArray := ⟨(leadL k).toArray⟩
def markAt : Nat → ByteArray
  | 0 => ⟨#[73]⟩
  | 1 => ⟨#[84]⟩
  | _ => ⟨#[70]⟩
/-- the text of an answer -/
def tellT (k st : Nat) (x : ByteArray) : ByteArray := (markAt st ++ leadAt k) ++ x
/-- what is wrong with an answer -/
def tellE (k : Int) (x : ByteArray) (st : Int) : Int :=
  if k < 1 ∨ 4 < k ∨ st < 0 ∨ 2 < st then 3 else if (decide (k = 2 ∨ k = 4) == x.toList.isEmpty) = true ∨ 60 < x.size then 4 else 0
theorem tellE_kind {k st : Int} {x : ByteArray} (h : k < 1 ∨ 4 < k ∨ st < 0 ∨ 2 < st) : tellE k x st = 3 := by unfold tellE; rw [if_pos h]
theorem tellE_form {k st : Int} {x : ByteArray} (h : ¬ (k < 1 ∨ 4 < k ∨ st < 0 ∨ 2 < st)) (h2 : (decide (k = 2 ∨ k = 4) == x.toList.isEmpty) = true ∨ 60 < x.size) : tellE k x st = 4 := by unfold tellE; rw [if_neg h, if_pos h2]
theorem tellE_ok {k st : Int} {x : ByteArray} (h : ¬ (k < 1 ∨ 4 < k ∨ st < 0 ∨ 2 < st)) (h2 : ¬ ((decide (k = 2 ∨ k = 4) == x.toList.isEmpty) = true ∨ 60 < x.size)) : tellE k x st = 0 := by unfold tellE; rw [if_neg h, if_neg h2]
theorem app_empty {a x : ByteArray} (h : x.toList.isEmpty = true) : a ++ x = a := by
  rw [Lib.toList_data, List.isEmpty_iff] at h
  apply ba_ext
  rw [ByteArray.data_append, Array.toList_append, h, List.append_nil]

end Go.Proofs.Ytpbaobmegomfpab

/-
  Plain mathematics: clients that share servers (P3.2 to P3.4), over whatever serves them.
-/
namespace Go.Proofs.Ytpbaobmegomfpab
open Go.RowKit
set_option linter.unusedVariables false

/-- a request; one of kind 0 is not understood -/
structure Req where
  k : Int
  key : ByteArray
  val : ByteArray
def Req.none_ : Req := ⟨0, ⟨#[]⟩, ⟨#[]⟩⟩
/-- what may wait -/
def Req.fine (r : Req) : Prop := r = Req.none_ ∨ checkE r.k r.key r.val = 0
structure Deed where
  c : Nat
  r : Req
  a : Ans
  st : Int
/-- a client -/
structure Cl where
  bytes : ByteArray
  wait : List Req
  srv : Option Nat
def Cl.new : Cl := ⟨⟨#[]⟩, [], none⟩
/-- what serves: a statement of a client that has a server, the state of its session, a server handed out, one given back, a client that goes -/
structure Ops (E : Type) where
  exec : E → Nat → Nat → Req → E × Ans × Int
  state : E → Nat → Option Nat → Int
  grant : E → Nat → Nat → E
  free : E → Nat → Nat → E
  leave : E → Nat → Option Nat → E
structure Mach (E : Type) where
  e : E
  cl : List Cl
  busy : List Bool
  line : List Nat
  sent : List ByteArray
  deeds : List Deed

def tUnder : ByteArray := ⟨#[110, 111, 116, 32, 117, 110, 100, 101, 114, 115, 116, 111, 111, 100]⟩
def tMode : ByteArray := ⟨#[110, 111, 116, 32, 105, 110, 32, 116, 104, 105, 115, 32, 109, 111, 100, 101]⟩
/-- why a request needs no server; empty: it needs one -/
def refuse (mode : Int) (r : Req) : ByteArray := if r.k = 0 then tUnder else if r.k = 1 ∧ mode = 3 then tMode else ⟨#[]⟩
def refB (mode : Int) (r : Req) : Bool := decide (r.k = 0 ∨ (r.k = 1 ∧ mode = 3))
def readyB (mode : Int) (x : Cl) : Bool := match x.wait with
  | [] => false
  | r :: _ => x.srv.isSome || refB mode r

section
variable {E : Type} (o : Ops E) (mode : Int)
def Mach.get (m : Mach E) (c : Nat) : Cl := m.cl.getD c Cl.new
def Mach.set (m : Mach E) (c : Nat) (x : Cl) : Mach E := { m with cl := m.cl.set c x }
/-- a message with an answer -/
def ansM (a : Ans) (st : Int) : ByteArray := msg 82 (tellT a.kind.toNat st.toNat a.text)
def Mach.tell (m : Mach E) (c : Nat) (a : Ans) (st : Int) : Mach E := { m with sent := m.sent.set c (m.sent.getD c ⟨#[]⟩ ++ ansM a st) }
def Mach.release (m : Mach E) (c s : Nat) : Mach E := { m with e := o.free m.e c s, busy := m.busy.set s false, cl := m.cl.set c { m.get c with srv := none } }
/-- the first request of a client -/
def Mach.proc (m : Mach E) (c : Nat) : Mach E := match (m.get c).wait with
  | [] => m
  | r :: rest =>
    if refB mode r then (m.set c { m.get c with wait := rest }).tell c ⟨4, refuse mode r⟩ (o.state m.e c (m.get c).srv)
    else
      let x := o.exec m.e c ((m.get c).srv.getD 0) r
      let m2 := Mach.tell { m.set c { m.get c with wait := rest } with e := x.1, deeds := m.deeds ++ [⟨c, r, x.2.1, x.2.2⟩] } c x.2.1 x.2.2
      if mode ≠ 1 ∧ x.2.2 = 0 then m2.release o c ((m.get c).srv.getD 0) else m2
/-- who has requests waits in line -/
def enqL (m : Mach E) (l : List Nat) (c : Nat) : List Nat := if (m.get c).wait ≠ [] ∧ ¬ c ∈ l then l ++ [c] else l
def Mach.enq (m : Mach E) : Mach E := { m with line := (List.range 6).foldl (enqL m) m.line }
/-- the first in line gets the first free server -/
def Mach.assign (m : Mach E) : Bool × Mach E := match m.line with
  | [] => (false, m)
  | c :: l => if m.busy.idxOf false < m.busy.length then (true, { m with line := l, busy := m.busy.set (m.busy.idxOf false) true, cl := m.cl.set c { m.get c with srv := some (m.busy.idxOf false) }, e := o.grant m.e c (m.busy.idxOf false) }) else (false, m)
def Mach.firstR (m : Mach E) : Option Nat := (List.range 6).find? (fun c => readyB mode (m.get c))
def Mach.step (m : Mach E) : Bool × Mach E := match m.firstR mode with
  | some c => (true, m.proc o mode c)
  | none => m.enq.assign o
def Mach.iter : Nat → Mach E → Mach E
  | 0, m => m
  | n + 1, m => if (m.step o mode).1 then Mach.iter n (m.step o mode).2 else (m.step o mode).2
def waits (l : List Cl) : Nat := (l.map fun x => x.wait.length).sum
def bare (l : List Cl) : Nat := l.countP fun x => x.srv.isNone
def Mach.mu (m : Mach E) : Nat := 2 * waits m.cl + bare m.cl
/-- P3.3: everything possible -/
def Mach.all (m : Mach E) : Mach E := m.iter o mode (m.mu + 1)
/-- P3.4 -/
def Mach.leave (m : Mach E) (c : Nat) : Mach E :=
  { m with e := o.leave m.e c (m.get c).srv, busy := match (m.get c).srv with
      | some s => m.busy.set s false
      | none => m.busy, line := m.line.filter (fun n => n != c), cl := m.cl.set c Cl.new }
/-- the first message of bytes: its kind, its text, its length -/
def pull (b : ByteArray) : Option (UInt8 × ByteArray × Nat) := if h : 2 ≤ b.size then (if 2 + b[1].toNat ≤ b.size then some (b[0], b.extract 2 (2 + b[1].toNat), 2 + b[1].toNat) else none) else none
/-- what a message asks -/
def reqOf (k : UInt8) (t : ByteArray) : Req := if k = 81 ∧ readE t = 0 then ⟨kindN (cutA t), cutA (cutB t), cutB (cutB t)⟩ else Req.none_
/-- what a client has sent becomes requests, up to a farewell -/
def Mach.feed : Nat → Mach E → Nat → Mach E
  | 0, m, _ => m
  | n + 1, m, c => match pull (m.get c).bytes with
    | none => m
    | some (k, t, j) => if k = 88 then (m.all o mode).leave o c else Mach.feed n (m.set c { m.get c with bytes := (m.get c).bytes.extract j (m.get c).bytes.size, wait := (m.get c).wait ++ [reqOf k t] }) c
def Mach.deliver (m : Mach E) (c : Nat) (data : ByteArray) : Mach E := (m.set c { m.get c with bytes := (m.get c).bytes ++ data }).feed o mode ((m.get c).bytes.size + data.size + 1) c
structure Act where
  kind : Int
  c : Int
  data : ByteArray
def Mach.act (m : Mach E) (a : Act) : Mach E := (if a.kind = 1 then m.deliver o mode a.c.toNat a.data else m.leave o a.c.toNat).all o mode
/-- P3.2 -/
def Mach.run (m : Mach E) (l : List Act) : Mach E := l.foldl (fun m a => m.act o mode a) m
def Mach.start (e : E) (n : Nat) : Mach E := ⟨e, List.replicate 6 Cl.new, List.replicate n false, [], List.replicate 6 ⟨#[]⟩, []⟩
end

/-- the errors of Run -/
def setupE (mode servers : Int) : Int := if mode < 1 ∨ 3 < mode then 3 else if servers < 1 ∨ 4 < servers then 2 else 0
def actE (a : Act) : Int := if ¬ (a.kind = 1 ∨ a.kind = 2) then 3 else if a.c < 0 ∨ 6 ≤ a.c then 2 else if 1000 < a.data.size then 1 else 0
def actsE : List Act → Int
  | [] => 0
  | a :: l => if actE a ≠ 0 then actE a else actsE l
def runE (mode servers : Int) (l : List Act) : Int := if setupE mode servers ≠ 0 then setupE mode servers else if 300 < l.length then 1 else actsE l

/-- servers that clients share: the world, and the lists of each client while no server has them -/
structure PE where
  w : Wd
  kept : List (PL × PL)
def PE.of (e : PE) (c : Nat) : PL × PL := e.kept.getD c ([], [])
/-- the pairs of a list that another does not have -/
def pairB (p q : ByteArray × ByteArray) : Bool := eqB p.1 q.1 && eqB p.2 q.2
def without (l o : PL) : PL := l.filter fun q => !o.any fun p => pairB p q
def doW (w : Wd) (s : Nat) (k : Int) (l : PL) : Wd := l.foldl (fun w q => (doM w s k q.1 q.2).1) w
def restoreW (w : Wd) (s : Nat) (p : PL × PL) : Wd :=
  let w1 := if (without (w.at s).set p.1).length > 0 ∨ (without (w.at s).prep p.2).length > 0 then (doM w s 4 ⟨#[]⟩ ⟨#[]⟩).1 else w
  doW (doW w1 s 9 (without p.1 (w1.at s).set)) s 11 (without p.2 (w1.at s).prep)
def PE.free (e : PE) (c s : Nat) : PE := ⟨e.w, e.kept.set c ((e.w.at s).set, (e.w.at s).prep)⟩
def PE.state (e : PE) (srv : Option Nat) : Int := match srv with
  | none => 0
  | some s => (e.w.at s).st
def poolO : Ops PE where
  exec e c s r := let x := doM e.w s r.k r.key r.val; (⟨x.1, e.kept⟩, x.2, (x.1.at s).st)
  state e _ srv := e.state srv
  grant e c s := ⟨restoreW e.w s (e.of c), e.kept⟩
  free e c s := e.free c s
  leave e c srv := match srv with
    | none => ⟨e.w, e.kept.set c ([], [])⟩
    | some s => ⟨if (e.w.at s).st ≠ 0 then (doM e.w s 3 ⟨#[]⟩ ⟨#[]⟩).1 else e.w, e.kept.set c ([], [])⟩
/-- each client has a session of its own -/
def Sess.zero : Sess := ⟨0, [], [], [], []⟩
def houseO : Ops Wd where
  exec e c _ r := let x := doM e c r.k r.key r.val; (x.1, x.2, (x.1.at c).st)
  state e c _ := (e.at c).st
  grant e _ _ := e
  free e _ _ := e
  leave e c _ := e.put c Sess.zero
def poolStart (n : Nat) : PE := ⟨⟨[], List.replicate n Sess.zero⟩, List.replicate 6 ([], [])⟩
def houseStart : Wd := ⟨[], List.replicate 6 Sess.zero⟩

end Go.Proofs.Ytpbaobmegomfpab

