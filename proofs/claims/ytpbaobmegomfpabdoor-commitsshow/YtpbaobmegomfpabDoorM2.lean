/-
  Texts of the proof, one behind the other: Math5, BackDo, BOwn, BCopy, BTx, BackPut, RefAt, RefMay, BCnt, BPut, BPutA, BPutB, BPutC, BPutD, BPutE, BPutF, BEnd.
-/
import Derived.Test.YtpbaobmegomfpabDoorM1
import Derived.Test.YtpbaobmegomfpabDoorRows
import Derived.Laws.MakeOwn
import Derived.Laws.Entries
import Derived.Deep.RegionHeld3
import Derived.Deep.RegionWith
import Derived.Deep.QuietTactic
import Derived.BigQuiet
import Derived.Maps.Own
import Derived.Maps.OwnOps
import Derived.Maps.OwnSet
import Derived.WalkArith
/-
  Plain mathematics: the text of a statement, read again.
-/
namespace Go.Proofs.YtpbaobmegomfpabDoor
open Go.RowKit

theorem blank_app {l r : List UInt8} (h : ∀ c ∈ l, c ≠ 32) : blank (l ++ 32 :: r) = l.length := by
  induction l with
  | nil => rfl
  | cons c l ih =>
    have h1 := h c (by simp)
    rw [List.cons_append, blank, if_neg (by simpa using h1), ih (fun d hd => h d (by simp [hd]))]
    rfl
theorem blank_none {l : List UInt8} (h : ∀ c ∈ l, c ≠ 32) : blank l = l.length := by
  induction l with
  | nil => rfl
  | cons c l ih =>
    have h1 := h c (by simp)
    rw [blank, if_neg (by simpa using h1), ih (fun d hd => h d (by simp [hd]))]
    rfl
theorem blank_split (l : List UInt8) (h : blank l < l.length) : l = l.take (blank l) ++ 32 :: l.drop (blank l + 1) := by
  induction l with
  | nil => simp at h
  | cons c l ih =>
    by_cases hc : (c == 32) = true
    · have e : blank (c :: l) = 0 := by rw [blank, if_pos hc]
      rw [e]
      have : c = 32 := by simpa using hc
      simp [this]
    · have e : blank (c :: l) = blank l + 1 := by rw [blank, if_neg hc]
      rw [e] at h ⊢
      have h2 := ih (by simpa using h)
      simp only [List.take_succ_cons, List.drop_succ_cons, List.cons_append]
      rw [← h2]

theorem cutA_list (s : ByteArray) : (cutA s).data.toList = s.data.toList.take (cutI s) := by
  unfold cutA; rw [Lib.extract_data]; simp
theorem cutB_list (s : ByteArray) : (cutB s).data.toList = s.data.toList.drop (cutI s + 1) := by
  unfold cutB; rw [Lib.extract_data, List.take_of_length_le]; simp
theorem cut_of {s : ByteArray} {l r : List UInt8} (hs : s.data.toList = l ++ 32 :: r) (h : ∀ c ∈ l, c ≠ 32) :
    cutI s = l.length ∧ (cutA s).data.toList = l ∧ (cutB s).data.toList = r ∧ cutF s = true := by
  have e : cutI s = l.length := by unfold cutI; rw [hs, blank_app h]
  have hz : s.size = s.data.toList.length := by simp
  refine ⟨e, ?_, ?_, ?_⟩
  · rw [cutA_list, e, hs, List.take_left' rfl]
  · rw [cutB_list, e, hs, List.drop_append]; simp
  · unfold cutF; rw [e, hz, hs]; simp
theorem cut_not {s : ByteArray} (h : ∀ c ∈ s.data.toList, c ≠ 32) : cutI s = s.size ∧ cutA s = s ∧ cutB s = ⟨#[]⟩ ∧ cutF s = false := by
  have e : cutI s = s.size := by unfold cutI; rw [blank_none h]; simp
  exact ⟨e, cutA_all e, cutB_none e, by unfold cutF; rw [e]; simp⟩
theorem cut_join {s : ByteArray} (h : cutF s = true) : s.data.toList = (cutA s).data.toList ++ 32 :: (cutB s).data.toList := by
  unfold cutF at h
  simp only [decide_eq_true_eq] at h
  rw [cutA_list, cutB_list]
  exact blank_split s.data.toList (by simpa [cutI] using h)
theorem cut_whole {s : ByteArray} (h : cutF s = false) : cutA s = s ∧ cutB s = ⟨#[]⟩ := by
  unfold cutF at h
  simp only [decide_eq_false_iff_not] at h
  have e : cutI s = s.size := by have := cutI_le s; omega
  exact ⟨cutA_all e, cutB_none e⟩

theorem wordL_clean : ∀ k, k ≤ 11 → ∀ c ∈ wordL k, c ≠ 32 := by decide
theorem bndB_clean {lo hi lim : Nat} {s : ByteArray} (h : bndB lo hi lim s = true) (hlo : 32 < lo) : ∀ c ∈ s.data.toList, c ≠ 32 := by
  unfold bndB at h
  simp only [Bool.and_eq_true, decide_eq_true_eq, List.all_eq_true] at h
  intro c hc e
  have := h.2 c hc
  subst e
  have h32 : (32 : UInt8).toNat = 32 := rfl
  omega

theorem prepB_38 {v : ByteArray} (h : prepB v = true) : v.size ≤ 38 := by
  unfold prepB at h
  simp only [Bool.and_eq_true, decide_eq_true_eq] at h
  have a1 := cut_total v
  have a2 := cut_total (cutB v)
  have a3 := kind_size (t := v) (by omega)
  have a4 := bndB_size h.2.2.1
  have a5 := plainV_size h.2.2.2
  omega
/-- more of a good statement -/
theorem good_more {k : Int} {key v : ByteArray} (h : checkE k key v = 0) : v.size ≤ 38 ∧ ∀ c ∈ key.data.toList, c ≠ 32 := by
  by_cases hk : k < 1 ∨ 11 < k
  · rw [checkE_kind hk] at h; cases h
  · cases h1 : keyB k key
    · rw [checkE_key hk h1] at h; cases h
    · cases h2 : valueB k v
      · rw [checkE_value hk h2] at h; cases h
      · constructor
        · unfold valueB at h2
          split at h2
          · exact prepB_38 h2
          · have := plainV_size h2; omega
        · by_cases h6 : 6 ≤ k ∧ k ≤ 11
          · rw [keyB_yes h6] at h1
            exact bndB_clean h1 (by omega)
          · rw [keyB_no h6] at h1
            have := isEmpty_size h1
            intro c hc
            have e : key.data.toList.length = 0 := by simpa using this
            rw [List.length_eq_zero_iff.1 e] at hc
            cases hc
theorem size_list (s : ByteArray) : s.size = s.data.toList.length := by simp
theorem text_list_12 (k : Nat) (key v : ByteArray) : ((wordAt k ++ (⟨#[32]⟩ ++ key)) ++ (⟨#[32]⟩ ++ v)).data.toList = wordL k ++ 32 :: (key.data.toList ++ 32 :: v.data.toList) := by
  simp [ByteArray.data_append, wordAt]
theorem text_list_9 (k : Nat) (key : ByteArray) : (wordAt k ++ (⟨#[32]⟩ ++ key)).data.toList = wordL k ++ 32 :: key.data.toList := by
  simp [ByteArray.data_append, wordAt]
theorem kindN_at {k : Nat} (h1 : 1 ≤ k) (h2 : k ≤ 11) {s : ByteArray} (h : s.data.toList = wordL k) : kindN s = k := kindN_hit h1 h2 h.symm
theorem empty_eq {s : ByteArray} (h : s.toList.isEmpty = true) : s = ⟨#[]⟩ := by
  rw [Lib.toList_data, List.isEmpty_iff] at h
  exact ba_ext (by rw [h])

/-- reading the text of a good statement gives it back -/
theorem read_text {k : Nat} {key v : ByteArray} (h : checkE k key v = 0) :
    kindN (cutA (textOf k key v)) = k ∧ cutA (cutB (textOf k key v)) = key ∧ cutB (cutB (textOf k key v)) = v ∧ readE (textOf k key v) = 0 := by
  obtain ⟨g1, g2, g3, g4, g5, g6⟩ := good_of h
  obtain ⟨g7, g8⟩ := good_more h
  have hw := wordL_len k (by omega)
  have hwc := wordL_clean k (by omega)
  by_cases h6 : k < 6
  · rw [decide_eq_true (by omega)] at g5 g6
    have e1 := empty_eq g5
    have e2 := empty_eq g6
    subst e1 e2
    rw [textOf_6 h6]
    obtain ⟨c1, c2, c3, c4⟩ := cut_not (s := wordAt k) (by rw [wordAt_toList]; exact hwc)
    have hk : kindN (cutA (wordAt k)) = k := by rw [c2]; exact kindN_at (by omega) (by omega) (wordAt_toList k)
    have hp := cutF_parts c4
    have hE := splitE_zero (t := wordAt k) (by omega) (splitBad_none c4)
    refine ⟨hk, hp.1, hp.2, ?_⟩
    rw [readE_check (by have := size_list (wordAt k); rw [wordAt_toList] at this; omega) hE, hk, hp.1, hp.2]
    exact h
  · by_cases h9 : k < 9
    · rw [decide_eq_true (by omega)] at g6
      rw [decide_eq_false (by omega)] at g5
      have e2 := empty_eq g6
      subst e2
      rw [textOf_9 h6 h9]
      have hl := text_list_9 k key
      generalize hT : wordAt k ++ (⟨#[32]⟩ ++ key) = T at hl ⊢
      obtain ⟨c1, c2, c3, c4⟩ := cut_of hl hwc
      have hk : kindN (cutA T) = k := kindN_at (by omega) (by omega) c2
      have hB : cutB T = key := ba_ext c3
      obtain ⟨d1, d2, d3, d4⟩ := cut_not g8
      rw [hB, d2, d3]
      have hE := splitE_zero (t := T) (by omega) (by unfold splitBad; rw [hB, d2, d3, c4, d4, g5]; rfl)
      refine ⟨hk, rfl, rfl, ?_⟩
      have hz := size_list T
      rw [hl] at hz
      have hzk := size_list key
      rw [readE_check (by simp at hz; omega) hE, hk, hB, d2, d3]
      exact h
    · rw [decide_eq_false (by omega)] at g5 g6
      rw [textOf_12 h9]
      have hl := text_list_12 k key v
      generalize hT : (wordAt k ++ (⟨#[32]⟩ ++ key)) ++ (⟨#[32]⟩ ++ v) = T at hl ⊢
      obtain ⟨c1, c2, c3, c4⟩ := cut_of hl hwc
      have hk : kindN (cutA T) = k := kindN_at (by omega) (by omega) c2
      obtain ⟨d1, d2, d3, d4⟩ := cut_of c3 g8
      have hA : cutA (cutB T) = key := ba_ext d2
      have hB : cutB (cutB T) = v := ba_ext d3
      rw [hA, hB]
      have hE := splitE_zero (t := T) (by omega) (by unfold splitBad; rw [hA, hB, c4, d4, g5, g6]; rfl)
      refine ⟨hk, rfl, rfl, ?_⟩
      have hz := size_list T
      rw [hl] at hz
      have hzk := size_list key
      have hzv := size_list v
      rw [readE_check (by simp at hz; omega) hE, hk, hA, hB]
      exact h

/-- a text that was read is the text of the statement -/
theorem text_read {s : ByteArray} (h : readE s = 0) : checkE (kindN (cutA s)) (cutA (cutB s)) (cutB (cutB s)) = 0 ∧ textOf (kindN (cutA s)) (cutA (cutB s)) (cutB (cutB s)) = s := by
  have hl : ¬ 60 < s.size := fun hl => by rw [readE_long hl] at h; cases h
  have hsp : splitE s = 0 := Classical.byContradiction fun hs => by rw [readE_split hl hs] at h; exact hs h
  have hc := readE_check hl hsp
  rw [h] at hc
  refine ⟨hc.symm, ?_⟩
  obtain ⟨g1, g2, g3, g4, g5, g6⟩ := good_of hc.symm
  obtain ⟨h0, hb⟩ := splitE_ok hsp
  have hw := kindN_word (s := cutA s) (by omega)
  have hwA : (wordAt (kindN (cutA s))).data.toList = (cutA s).data.toList := by rw [wordAt_toList, hw]
  unfold splitBad at hb
  cases f1 : cutF s
  · have hp := cutF_parts f1
    rw [hp.1] at g5
    have h6 : kindN (cutA s) < 6 := by
      rw [empty_of rfl] at g5
      have := of_decide_eq_true g5.symm
      omega
    rw [textOf_6 h6]
    apply ba_ext
    rw [hwA, (cut_whole f1).1]
  · rw [f1] at hb
    have hk : (cutA (cutB s)).toList.isEmpty = false := by
      cases e : (cutA (cutB s)).toList.isEmpty
      · rfl
      · rw [e] at hb; simp at hb
    rw [hk] at g5
    have h6 : ¬ kindN (cutA s) < 6 := by
      have := of_decide_eq_false g5.symm
      omega
    have hj := cut_join f1
    cases f2 : cutF (cutB s)
    · have hw2 := cut_whole f2
      rw [hw2.2] at g6
      have h9 : kindN (cutA s) < 9 := by
        rw [empty_of rfl] at g6
        have := of_decide_eq_true g6.symm
        omega
      rw [textOf_9 h6 h9]
      apply ba_ext
      rw [text_list_9, hw, hw2.1]
      exact hj.symm
    · rw [f2, hk] at hb
      have hv : (cutB (cutB s)).toList.isEmpty = false := by
        cases e : (cutB (cutB s)).toList.isEmpty
        · rfl
        · rw [e] at hb; simp at hb
      rw [hv] at g6
      have h9 : ¬ kindN (cutA s) < 9 := by
        have := of_decide_eq_false g6.symm
        omega
      rw [textOf_12 h9]
      apply ba_ext
      rw [text_list_12, hw, ← cut_join f2]
      exact hj.symm

end Go.Proofs.YtpbaobmegomfpabDoor

/-
  Plain mathematics: what a statement does in a session of a world (P2.2 to P2.4).
-/
namespace Go.Proofs.YtpbaobmegomfpabDoor
open Go.RowKit
set_option linter.unusedVariables false

/-- the texts of errors -/
def tFailed : ByteArray := ⟨#[102, 97, 105, 108, 101, 100, 32, 97, 108, 114, 101, 97, 100, 121]⟩
def tBegun : ByteArray := ⟨#[98, 101, 103, 117, 110, 32, 97, 108, 114, 101, 97, 100, 121]⟩
def tNoTx : ByteArray := ⟨#[110, 111, 32, 116, 114, 97, 110, 115, 97, 99, 116, 105, 111, 110]⟩
def tNotIn : ByteArray := ⟨#[110, 111, 116, 32, 105, 110, 32, 97, 32, 116, 114, 97, 110, 115, 97, 99, 116, 105, 111, 110]⟩
def tAsked : ByteArray := ⟨#[97, 115, 32, 97, 115, 107, 101, 100]⟩
def tNotPrep : ByteArray := ⟨#[110, 111, 116, 32, 112, 114, 101, 112, 97, 114, 101, 100]⟩
def tFull : ByteArray := ⟨#[102, 117, 108, 108]⟩
def tHeld : ByteArray := ⟨#[104, 101, 108, 100]⟩
/-- what is answered: its kind and its text -/
structure Ans where
  kind : Int
  text : ByteArray
def no' (t : ByteArray) : Ans := ⟨4, t⟩
def ok' : Ans := ⟨1, ⟨#[]⟩⟩
def fnd' (o : Option ByteArray) : Ans := match o with
  | some v => ⟨2, v⟩
  | none => ⟨3, ⟨#[]⟩⟩
/-- the session i, and a world with another session there -/
def Wd.at (W : Wd) (i : Nat) : Sess := W.ss.getD i ⟨0, [], [], [], []⟩
def Wd.put (W : Wd) (i : Nat) (s : Sess) : Wd := ⟨W.rows, W.ss.set i s⟩
/-- all pairs of a list stored in another -/
def plusF (rows l : PL) : PL := l.foldl (fun a p => plusL a p.1 p.2) rows
/-- a statement that is no Exec -/
def did1 (W : Wd) (i : Nat) (k : Int) (key val : ByteArray) : Wd × Ans :=
  let s := W.at i
  if s.st = 2 ∧ ¬ (k = 2 ∨ k = 3) then (W, no' tFailed)
  else if k = 1 then (if s.st = 0 then (W.put i { s with st := 1, sav := s.set }, ok') else (W, no' tBegun))
  else if k = 2 ∨ k = 3 then
    (if s.st = 0 then (W, no' tNoTx)
     else if k = 2 ∧ s.st = 1 then (⟨plusF W.rows s.wr, W.ss.set i { s with st := 0, sav := [], wr := [] }⟩, ok')
     else (W.put i { s with st := 0, set := s.sav, sav := [], wr := [] }, ok'))
  else if k = 4 then (if s.st = 0 then (W.put i { s with set := [], prep := [] }, ok') else (W, no' tNotIn))
  else if k = 6 then (W, fnd' (atL s.set key))
  else if k = 7 then (W, fnd' (match atL s.wr key with | some v => some v | none => atL W.rows key))
  else if k = 9 then (if fndL s.set key = false ∧ 6 ≤ s.set.length then (W, no' tFull) else (W.put i { s with set := plusL s.set key val }, ok'))
  else if k = 10 then
    (if heldB W.ss i key = true then (W, no' tHeld)
     else if fndL (allL W) key = false ∧ 100 ≤ (allL W).length then (W, no' tFull)
     else if s.st = 1 then (W.put i { s with wr := plusL s.wr key val }, ok')
     else (⟨plusL W.rows key val, W.ss⟩, ok'))
  else if k = 11 then (if fndL s.prep key = false ∧ 6 ≤ s.prep.length then (W, no' tFull) else (W.put i { s with prep := plusL s.prep key val }, ok'))
  else (W, no' tAsked)
/-- a statement -/
def didM (W : Wd) (i : Nat) (k : Int) (key val : ByteArray) : Wd × Ans :=
  if k = 8 then
    (if (W.at i).st = 2 then (W, no' tFailed)
     else match atL (W.at i).prep key with
      | none => (W, no' tNotPrep)
      | some t => did1 W i (kindN (cutA t)) (cutA (cutB t)) (cutB (cutB t)))
  else did1 W i k key val
/-- P2.2: an Error in a transaction fails it -/
def doM (W : Wd) (i : Nat) (k : Int) (key val : ByteArray) : Wd × Ans :=
  let r := didM W i k key val
  if r.2.kind = 4 ∧ (r.1.at i).st = 1 then (r.1.put i { r.1.at i with st := 2, wr := [] }, r.2) else r
/-- the errors of Do -/
def doE (W : Wd) (i : Int) (k : Int) (key val : ByteArray) : Int :=
  if worldB W = false then 5 else if i < 0 ∨ (W.ss.length : Int) ≤ i then 6 else checkE k key val

/-- an Error has left the world as it was -/
def Keeps (W : Wd) (r : Wd × Ans) : Prop := r.2.kind = 4 → r.1 = W
theorem keeps_ite {W : Wd} {c : Prop} [Decidable c] {a b : Wd × Ans} (ha : Keeps W a) (hb : Keeps W b) : Keeps W (if c then a else b) := by
  split
  · exact ha
  · exact hb
theorem keeps_same (W : Wd) (a : Ans) : Keeps W (W, a) := fun _ => rfl
theorem keeps_ok (W V : Wd) : Keeps W (V, ok') := fun h => absurd h (by show ¬ ((1 : Int) = 4); decide)
theorem did1_keeps (W : Wd) (i : Nat) (k : Int) (key val : ByteArray) : Keeps W (did1 W i k key val) := by
  unfold did1
  simp only
  repeat' first
    | exact keeps_same _ _
    | exact keeps_ok _ _
    | refine keeps_ite ?_ ?_
theorem didM_keeps (W : Wd) (i : Nat) (k : Int) (key val : ByteArray) : Keeps W (didM W i k key val) := by
  unfold didM
  refine keeps_ite (keeps_ite (keeps_same _ _) ?_) (did1_keeps _ _ _ _ _)
  split
  · exact keeps_same _ _
  · exact did1_keeps _ _ _ _ _

/-- the strings and the lists of a world that may be are short -/
def Sz60 (l : PL) : Prop := l.length ≤ 100 ∧ ∀ p ∈ l, p.1.size ≤ 8 ∧ p.2.size ≤ 60
theorem pairsB_sz {l : PL} {most : Nat} {kind : Int} (hm : most ≤ 100) (h : pairsB l most kind = true) : Sz60 l := by
  obtain ⟨_, h2, h3⟩ := pairsB_rising h
  refine ⟨by omega, fun p hp => ?_⟩
  have hg := good_of (h3 p hp)
  exact ⟨hg.key8, hg.v60⟩

end Go.Proofs.YtpbaobmegomfpabDoor

/-
  A world in blocks of its own, behind a pointer; what is left of it behind a statement.
-/
namespace Go.Proofs.YtpbaobmegomfpabDoor
open Go.RowKit
set_option linter.unusedVariables false
set_option linter.unusedSimpArgs false
set_option maxRecDepth 100000

/-- a slice from the front of a block -/
def slc (g n c : Nat) : Value := .slice (some ⟨g, 0, none⟩) n c
/-- the strings and the lists of a world are short -/
structure SzW (W : Wd) : Prop where
  rows : Sz60 W.rows
  many : W.ss.length ≤ 8
  li : ∀ i j (h : i < W.ss.length), j < 4 → Sz60 (W.ss[i].li j)
theorem Sz60.sz {l : PL} (h : Sz60 l) : Sz l := fun p hp => ⟨by have := (h.2 p hp).1; omega, by have := (h.2 p hp).2; omega⟩
theorem worldOk_sz {W : Wd} (h : WorldOk W) : SzW W := by
  refine ⟨pairsB_sz (Nat.le_refl _) h.rows, h.many, fun i j hi hj => ?_⟩
  have s := h.sess i hi
  rcases j4 hj with rfl | rfl | rfl | rfl
  · exact pairsB_sz (by omega) s.set
  · exact pairsB_sz (by omega) s.prep
  · exact pairsB_sz (by omega) s.sav
  · exact pairsB_sz (by omega) s.wr
structure OwnD (w : World) (X S gR cR : Nat) (G C : Nat → Nat → Nat) (W : Wd) : Prop where
  box : RowTo w X 25 2 [slc gR W.rows.length cR, slc S W.ss.length W.ss.length]
  rows : OwnL w gR cR W.rows
  blk : RowTo w S 46 (W.ss.length * 5) []
  st : ∀ i (h : i < W.ss.length), w.cell? ⟨S, i * 5, none⟩ = some (.int .i64 W.ss[i].st)
  cs : ∀ i j (h : i < W.ss.length), j < 4 → w.cell? ⟨S, i * 5 + (j + 1), none⟩ = some (slc (G i j) (W.ss[i].li j).length (C i j))
  ls : ∀ i j (h : i < W.ss.length), j < 4 → OwnL w (G i j) (C i j) (W.ss[i].li j)
  neXS : X ≠ S
  neRX : gR ≠ X
  neRS : gR ≠ S
  neGX : ∀ i j, i < W.ss.length → j < 4 → G i j ≠ X
  neGS : ∀ i j, i < W.ss.length → j < 4 → G i j ≠ S
  neGR : ∀ i j, i < W.ss.length → j < 4 → G i j ≠ gR
  inj : ∀ i j i' j', i < W.ss.length → j < 4 → i' < W.ss.length → j' < 4 → G i j = G i' j' → i = i' ∧ j = j'
/-- all blocks of a world are from base on -/
structure LoD (base X S gR : Nat) (G : Nat → Nat → Nat) (n : Nat) : Prop where
  x : base ≤ X
  s : base ≤ S
  r : base ≤ gR
  g : ∀ i j, i < n → j < 4 → base ≤ G i j
/-- a slice value lies from block lo on -/
def LoV (lo : Nat) (v : Value) : Prop := ∀ a n c, v = .slice (some a) n c → lo ≤ a.block
theorem LoV.at {lo b o n c : Nat} (h : lo ≤ b) : LoV lo (.slice (some ⟨b, o, none⟩) n c) := fun a n' c' e => by injection e with e; injection e with e; subst e; exact h
theorem LoV.slc {lo g n c : Nat} (h : lo ≤ g) : LoV lo (slc g n c) := LoV.at h
theorem LoV.non (lo n c : Nat) : LoV lo (.slice none n c) := fun a n' c' e => by injection e with e; cases e
theorem LoD.v {base X S gR n : Nat} {G : Nat → Nat → Nat} (h : LoD base X S gR G n) {i j : Nat} (hi : i < n) (hj : j < 4) {m c : Nat} : LoV base (Go.Proofs.YtpbaobmegomfpabDoor.slc (G i j) m c) := LoV.at (h.g i j hi hj)
/-- what is left: it reads as W, its sessions lie in block S, all of it from block base on -/
structure EndW (w : World) (base X S : Nat) (W : Wd) : Prop where
  box : ∃ r, RowTo w X 25 2 [r, slc S W.ss.length W.ss.length] ∧ Wld w w.heap.size r (slc S W.ss.length W.ss.length) W ∧ LoV base r
  blk : RowTo w S 46 (W.ss.length * 5) []
  loX : base ≤ X
  loS : base ≤ S
  los : ∀ k j v, k < W.ss.length → j < 4 → w.cell? ⟨S, k * 5 + (j + 1), none⟩ = some v → LoV base v
theorem OwnD.kept {w w' : World} {X S gR cR : Nat} {G C : Nat → Nat → Nat} {W : Wd} (h : OwnD w X S gR cR G C W) (hb : Below w.heap.size w w') : OwnD w' X S gR cR G C W :=
  ⟨h.box.below hb h.box.lt, h.rows.below hb h.rows.row.lt, h.blk.below hb h.blk.lt, fun i hi => (hb.cell (p := ⟨S, i * 5, none⟩) h.blk.lt).trans (h.st i hi), fun i j hi hj => (hb.cell (p := ⟨S, i * 5 + (j + 1), none⟩) h.blk.lt).trans (h.cs i j hi hj),
    fun i j hi hj => (h.ls i j hi hj).below hb (h.ls i j hi hj).row.lt, h.neXS, h.neRX, h.neRS, h.neGX, h.neGS, h.neGR, h.inj⟩
/-- one list reads -/
theorem OwnD.list {w : World} {X S gR cR : Nat} {G C : Nat → Nat → Nat} {W : Wd} (h : OwnD w X S gR cR G C W) (hz : SzW W) {i j : Nat} (hi : i < W.ss.length) (hj : j < 4) : Lst w w.heap.size (slc (G i j) (W.ss[i].li j).length (C i j)) (W.ss[i].li j) :=
  (h.ls i j hi hj).lst (by have := (hz.li i j hi hj).1; omega) (hz.li i j hi hj).sz
/-- what is left where only sessions i, the rows, and new blocks may have turned -/
theorem OwnD.left {w w' : World} {X S gR cR : Nat} {G C : Nat → Nat → Nat} {W : Wd} {base : Nat} (h : OwnD w X S gR cR G C W) (lo : LoD base X S gR G W.ss.length) {r v1 v2 v3 v4 : Value} (lr : LoV base r) (lv : LoV base v1 ∧ LoV base v2 ∧ LoV base v3 ∧ LoV base v4) (hz : SzW W) {i : Nat} (hi : i < W.ss.length) {s' : Sess} {rows' : PL} (hsz : w.heap.size ≤ w'.heap.size)
    (hbox : RowTo w' X 25 2 [r, slc S W.ss.length W.ss.length]) (hblk : RowTo w' S 46 (W.ss.length * 5) []) (hr : Lst w' w'.heap.size r rows')
    (hS : ∀ k j, k ≠ i → j < 5 → w'.cell? ⟨S, k * 5 + j, none⟩ = w.cell? ⟨S, k * 5 + j, none⟩)
    (hL : ∀ k j, k < W.ss.length → k ≠ i → j < 4 → w'.heap[G k j]? = w.heap[G k j]?)
    (hs : Ses w' w'.heap.size S (i * 5) s' v1 v2 v3 v4) : EndW w' base X S ⟨rows', W.ss.set i s'⟩ := by
  have hl : (W.ss.set i s').length = W.ss.length := List.length_set
  refine ⟨⟨r, by rw [hl]; exact hbox, ⟨hr, ⟨⟨_, _, rfl, by rw [hl]; exact Nat.le_refl _⟩, by rw [hl]; have := hz.many; omega, fun hn => ⟨S, 0, W.ss.length, by rw [hl]; rfl, hblk.lt, fun k hk => ?_⟩⟩⟩, lr⟩, by rw [hl]; exact hblk, lo.x, lo.s, fun k j v hk hj hv => ?_⟩
  case refine_2 =>
    rw [hl] at hk
    by_cases e : k = i
    · subst e
      rcases j4 hj with rfl | rfl | rfl | rfl
      · rw [hs.c1] at hv; injection hv with hv; rw [← hv]; exact lv.1
      · rw [hs.c2] at hv; injection hv with hv; rw [← hv]; exact lv.2.1
      · rw [hs.c3] at hv; injection hv with hv; rw [← hv]; exact lv.2.2.1
      · rw [hs.c4] at hv; injection hv with hv; rw [← hv]; exact lv.2.2.2
    · rw [hS k (j + 1) e (by omega), h.cs k j hk hj] at hv
      injection hv with hv
      rw [← hv]
      exact lo.v hk hj
  rw [hl] at hk
  rw [Nat.zero_add]
  by_cases e : k = i
  · subst e
    simp only [List.getElem_set_self]
    exact ⟨_, _, _, _, hs⟩
  · simp only [List.getElem_set_ne (Ne.symm e)]
    have c0 := (hS k 0 e (by omega)).trans (h.st k hk)
    have c1 := (hS k 1 e (by omega)).trans (h.cs k 0 hk (by omega))
    have c2 := (hS k 2 e (by omega)).trans (h.cs k 1 hk (by omega))
    have c3 := (hS k 3 e (by omega)).trans (h.cs k 2 hk (by omega))
    have c4 := (hS k 4 e (by omega)).trans (h.cs k 3 hk (by omega))
    have ll : ∀ j, j < 4 → Lst w' w'.heap.size (slc (G k j) (W.ss[k].li j).length (C k j)) (W.ss[k].li j) := fun j hj =>
      ((h.ls k j hk hj).same (hL k j hk e hj)).lst (by have := (hz.li k j hk hj).1; omega) (hz.li k j hk hj).sz
    exact ⟨_, _, _, _, c0, c1, c2, c3, c4, ll 0 (by omega), ll 1 (by omega), ll 2 (by omega), ll 3 (by omega)⟩
/-- an empty list -/
theorem Lst.none_ (w : World) (B : Nat) : Lst w B (.slice none 0 0) [] := ⟨⟨none, 0, rfl, Nat.le_refl _⟩, by simp, by simp, fun h => absurd h (by simp), fun n c h => by injection h with _ _ h; exact h.symm⟩

set_option maxHeartbeats 1000000 in
theorem begin_no (w : World) (p : Addr) (st : Int) (hc : w.cell? p = some (.int .i64 st)) (hst : st ≠ 0) :
    Calls Tryd.prog 39 #[.pointer (some p)] w fun e w' => e = .returned (ansV 4 tBegun) ∧ Below w.heap.size w w' := by
  have hp := World.block_lt_of_cell? w _ hc
  have h1 : (st != 0) = true := bne_iff_ne.2 hst
  clear hst
  go_enter Tryd.func39, Tryd.ntmps39
  go_wp2_with fail
  refine (failure_any tBegun _).mono ?_
  rintro e w9 ⟨rfl, hb9⟩
  have X9 := (RowTo.whole w #[.int .i64 0, .string ⟨#[]⟩, .int .i64 0] 30).below hb9 (by simp)
  have r0 := X9.cell (j := 0) (by simp)
  have r1 := X9.cell (j := 1) (by simp)
  have r2 := X9.cell (j := 2) (by simp)
  have s0 := X9.frozen 0
  have s1 := X9.frozen 1
  have s2 := X9.frozen 2
  simp only [List.getElem_cons_zero, List.getElem_cons_succ] at r0 r1 r2
  have B9 := Lib.hid (bel_add' ((Below.refl w.heap.size w).alloc (Nat.le_refl _) _) hb9 (by simp))
  clear X9 hb9
  unfold ansV
  go_wp2
  refine bodyPost_ret (v := .agg #[.int .i64 4, .string tBegun, .int .i64 0]) (by simp [results, Tryd.results39, go_sem, r0, r1, r2]) rfl ⟨rfl, ?_⟩
  exact ((B9.out.setCell (by simp) _).setCell (by simp) _).setCell (by simp) _
end Go.Proofs.YtpbaobmegomfpabDoor

/-
  Walks of back.copyPairs.
-/
namespace Go.Proofs.YtpbaobmegomfpabDoor
open Go.RowKit
set_option linter.unusedVariables false
set_option maxRecDepth 100000

theorem madeCells_size (cs : Array Value) (n : Nat) : (madeCells cs n).size = n := by simp [madeCells]
theorem pair_info : (Tryd.prog.info? 50).map (fun i => (i.zero, i.size, i.bytes)) = some (some (.agg #[.string ⟨#[]⟩, .string ⟨#[]⟩]), 2, 32) := by kernel_rfl
theorem make_pairs (n : Nat) (h : n * 32 ≤ 140737488351232) (w : World) :
    (Instr.makeSlice 22 (.int .i64 (n : Int)) (.int .i64 (n : Int))).run Tryd.prog w = .ok (.slice (some ⟨w.heap.size, 0, none⟩) n n) (w.alloc (.cells (madeCells (Value.agg #[.string ⟨#[]⟩, .string ⟨#[]⟩]).cells (n * 2)) 50)) := by
  obtain ⟨i0, hi, hz0, hz1, hz2⟩ := info_parts pair_info
  have hr := run_make (P := Tryd.prog) w 22 50 i0 _ Tryd.underlying22 hi hz0 .i64 .i64 (n : Int) (n : Int) (by omega) (Int.le_refl _) (by rw [hz2]; omega) (by omega)
  rw [hz1] at hr
  simpa only [Int.toNat_natCast] using hr
theorem cell_set2 {w : World} {b R i j k : Nat} {u x y : Value} (h : w.cell? ⟨b, i, none⟩ = some u) (hne : b ≠ R) :
    ((w.setCell ⟨R, j, none⟩ x).setCell ⟨R, k, none⟩ y).cell? ⟨b, i, none⟩ = some u := by
  simp [go_sem, h]
/-- a cell of a block that was just laid -/
theorem cell_neu (w : World) (cs : Array Value) (t : TypeId) (i : Nat) (h : i < cs.size) : (w.alloc (.cells cs t)).cell? ⟨w.heap.size, i, none⟩ = some cs[i] := by
  rw [World.cell?_alloc_at _ _ _ _ rfl, Array.getElem?_eq_getElem h]
theorem bel_add {B : Nat} {a b c : World} (h : Below B a b) (k : Below b.heap.size b c) (hB : B ≤ b.heap.size) : Below B a c := h.trans (k.mono hB)
theorem bel_addN {B n : Nat} {a b c : World} (h : Below B a b) (k : Below (b.drewN n).heap.size (b.drewN n) c) (hB : B ≤ b.heap.size) : Below B a c :=
  h.trans ⟨k.os, k.tape, k.output, k.size, fun i hi => k.block i (Nat.lt_of_lt_of_le hi hB)⟩

set_option maxHeartbeats 1000000 in
theorem copyPairs_any (v : Value) (l : PL) (w : World) (hl : Lst w w.heap.size v l) :
    Calls Tryd.prog 37 #[v] w fun e w' => ∃ g, e = .returned (.slice (some ⟨g, 0, none⟩) l.length l.length) ∧ w.heap.size ≤ g ∧ RowTo w' g 50 (l.length * 2) (flat l) ∧ Below w.heap.size w w' := by
  obtain ⟨A, c, rfl, hc⟩ := hl.form
  have hby := hl.bytes
  have hmk := make_pairs l.length hby
  have HL := Lib.hid hl
  clear hl
  go_enter Tryd.func37, Tryd.ntmps37
  go_wp2
  clear hmk
  go_loopw [11] (fun i wr => ∃ k : Nat, k ≤ l.length ∧ i = .int .i64 k ∧ RowTo wr w.heap.size 50 (l.length * 2) (flat (l.take k)) ∧ Below w.heap.size w wr) (fun i _ => l.length - (intOf i).toNat)
  case atStart =>
    refine ⟨0, by omega, rfl, ?_, (Below.refl _ _).alloc (Nat.le_refl _) _⟩
    have := RowTo.new w (madeCells #[.string ⟨#[]⟩, .string ⟨#[]⟩] (l.length * 2)) 50
    rw [madeCells_size] at this
    exact this
  case round =>
    obtain ⟨k, hk, rfl, hrow, bel⟩ := hrel
    by_cases hlt : k < l.length
    · obtain ⟨b, off, rfl, hb, c0, c1⟩ := HL.out.pt hlt
      obtain ⟨z0, z1⟩ := HL.out.key hlt
      have hwlt := hrow.lt
      have d0 := (bel.cell (p := ⟨b, off + k * 2, none⟩) hb).trans c0
      have d1 := (bel.cell (p := ⟨b, off + k * 2 + 1, none⟩) hb).trans c1
      have HS := Lib.hid (flat_step l k hlt)
      have hlen := Lib.hid (show (flat (l.take k)).length = k * 2 by rw [flat_length, List.length_take]; omega)
      have HR := Lib.hid hrow
      have HB := Lib.hid bel
      clear hrow bel c0 c1
      go_wp2
      clear d0 d1
      generalize hq0 : l[k].1 = s0 at *
      generalize hq1 : l[k].2 = s1 at *
      have HQ := Lib.hid (And.intro hq0 hq1)
      clear hq0 hq1
      have e0 := cell_neu wr #[.string s0, .string s1] 50 0 (by simp)
      have e1 := cell_neu wr #[.string s0, .string s1] 50 1 (by simp)
      simp only [List.getElem_toArray, List.getElem_cons_zero, List.getElem_cons_succ] at e0 e1
      have R0 := Lib.hid (HR.out.alloc (.cells #[.string s0, .string s1] 50))
      have B0 := Lib.hid (HB.out.alloc HB.out.size (.cells #[.string s0, .string s1] 50))
      have hz0 : wr.heap.size < (wr.alloc (.cells #[.string s0, .string s1] 50)).heap.size := by simp
      generalize wr.alloc (.cells #[.string s0, .string s1] 50) = W0 at *
      have kb := Below.refl W0.heap.size W0
      have hz1 : w.heap.size < W0.heap.size := by omega
      have hne : wr.heap.size ≠ w.heap.size := by omega
      go_region_held3 (fun wx => wx.cell? ⟨wr.heap.size, 0, none⟩ = some (.string s0) ∧ wx.cell? ⟨wr.heap.size, 1, none⟩ = some (.string s1))
        (first | exact ⟨e0, e1⟩ | exact ⟨cell_set2 ((kb.cell (p := ⟨wr.heap.size, 0, none⟩) hz0).trans e0) hne, cell_set2 ((kb.cell (p := ⟨wr.heap.size, 1, none⟩) hz0).trans e1) hne⟩ | exact ⟨(kb.cell (p := ⟨wr.heap.size, 0, none⟩) hz0).trans e0, (kb.cell (p := ⟨wr.heap.size, 1, none⟩) hz0).trans e1⟩)
        (first
          | (
            go_at_call_of 25 (Value.string s0)
            refine (clone_any s0 _ (by omega)).mono ?_
            rintro e w3 ⟨rfl, hy⟩
            have kb : Below W0.heap.size W0 w3 := by first | exact bel_add kb hy kb.size | exact bel_addN kb hy kb.size
            have R1 := Lib.hid (R0.out.below kb hz1)
            obtain ⟨u0, f0⟩ := R1.out.any (j := k * 2) (by omega)
            obtain ⟨u1, f1⟩ := R1.out.any (j := k * 2 + 1) (by omega)
            have g0 := R1.out.frozen (k * 2)
            have g1 := R1.out.frozen (k * 2 + 1))
          | (
            go_at_call_of 25 (Value.string s1)
            refine (clone_any s1 _ (by omega)).mono ?_
            rintro e w3 ⟨rfl, hy⟩
            have kb : Below W0.heap.size W0 w3 := by first | exact bel_add kb hy kb.size | exact bel_addN kb hy kb.size
            have R1 := Lib.hid (R0.out.below kb hz1)
            obtain ⟨u0, f0⟩ := R1.out.any (j := k * 2) (by omega)
            obtain ⟨u1, f1⟩ := R1.out.any (j := k * 2 + 1) (by omega)
            have g0 := R1.out.frozen (k * 2)
            have g1 := R1.out.frozen (k * 2 + 1)))
      go_wp2
      go_roundw
      case rel =>
        have l1 := hlen.out
        refine ⟨k + 1, by omega, by go_num, ?_, ?_⟩
        · rw [HS.out]
          exact (R1.out.push (by omega) _ l1.symm).push (by simp; omega) _ (by simp; omega)
        · exact ((B0.out.trans (kb.mono (by omega))).setCell (Nat.le_refl _) _).setCell (Nat.le_refl _) _
      case measure => simp [intOf]; omega
    · go_wp2
      go_ret
      refine ⟨w.heap.size, rfl, Nat.le_refl _, ?_, bel⟩
      rw [List.take_of_length_le (by omega)] at hrow
      exact hrow
end Go.Proofs.YtpbaobmegomfpabDoor

/-
  Walks of back.begin and back.reset.
-/
namespace Go.Proofs.YtpbaobmegomfpabDoor
open Go.RowKit
set_option linter.unusedVariables false
set_option linter.unusedSimpArgs false
set_option maxRecDepth 100000

/-- a statement was done -/
def Rest (w w' : World) (X S gR : Nat) (G : Nat → Nat → Nat) (n : Nat) : Prop := ∀ b, b < w.heap.size → b ≠ X → b ≠ S → b ≠ gR → (∀ i j, i < n → j < 4 → b ≠ G i j) → w'.heap[b]? = w.heap[b]?
def DonePost (w : World) (base X S gR : Nat) (G : Nat → Nat → Nat) (n : Nat) (W : Wd) (e : Ending) (w' : World) : Prop := e = .returned (ansV 1 ⟨#[]⟩) ∧ EndW w' base X S W ∧ Below base w w' ∧ Rest w w' X S gR G n
theorem getD_at {W : Wd} {i : Nat} (h : i < W.ss.length) : W.at i = W.ss[i] := by
  unfold Wd.at
  rw [List.getD_eq_getElem?_getD, List.getElem?_eq_getElem h]
  rfl

/-- of what was there only block S has turned, as in wS -/
structure Chs (w w' wS : World) (S : Nat) : Prop where
  os : w'.os = w.os
  tape : w'.tape = w.tape
  output : w'.output = w.output
  size : w.heap.size ≤ w'.heap.size
  other : ∀ b, b < w.heap.size → b ≠ S → w'.heap[b]? = w.heap[b]?
  here : w'.heap[S]? = wS.heap[S]?
theorem Chs.refl (w : World) (S : Nat) : Chs w w w S := ⟨rfl, rfl, rfl, Nat.le_refl _, fun _ _ _ => rfl, rfl⟩
theorem Chs.below {w w' w'' wS : World} {S B : Nat} (h : Chs w w' wS S) (hb : Below B w' w'') (hB : w.heap.size ≤ B) (hS : S < w.heap.size) : Chs w w'' wS S :=
  ⟨hb.os.trans h.os, hb.tape.trans h.tape, hb.output.trans h.output, Nat.le_trans h.size hb.size, fun b hbl hne => (hb.block b (by omega)).trans (h.other b hbl hne), (hb.block S (by omega)).trans h.here⟩
theorem Chs.alloc {w w' wS : World} {S : Nat} (h : Chs w w' wS S) (hS : S < w.heap.size) (o : Obj) : Chs w (w'.alloc o) wS S :=
  h.below (B := w'.heap.size) ((Below.refl _ _).alloc (Nat.le_refl _) o) h.size hS
theorem Chs.setS {w w' wS : World} {S j : Nat} (h : Chs w w' wS S) (v : Value) : Chs w (w'.setCell ⟨S, j, none⟩ v) (wS.setCell ⟨S, j, none⟩ v) S :=
  ⟨h.os, h.tape, h.output, by simpa [World.setCell] using h.size, fun b hb hne => (Below.heap_setCell _ _ _ _ hne).trans (h.other b hb hne), setCell_block (p := ⟨S, j, none⟩) h.here⟩
theorem Chs.setN {w w' wS : World} {S : Nat} (h : Chs w w' wS S) {p : Addr} (hp : w.heap.size ≤ p.block) (hS : S < w.heap.size) (v : Value) : Chs w (w'.setCell p v) wS S :=
  ⟨h.os, h.tape, h.output, by simpa [World.setCell] using h.size, fun b hb hne => (Below.heap_setCell _ _ _ _ (by omega)).trans (h.other b hb hne), (Below.heap_setCell _ _ _ _ (by omega)).trans h.here⟩
theorem Chs.bel {w w' wS : World} {S base : Nat} (h : Chs w w' wS S) (hb : base ≤ S) (hw : base ≤ w.heap.size) : Below base w w' :=
  ⟨h.os, h.tape, h.output, h.size, fun k hk => h.other k (by omega) (by omega)⟩
/-- what is left where session i alone has turned -/
theorem OwnD.turned {w w' wS : World} {X S gR cR : Nat} {G C : Nat → Nat → Nat} {W : Wd} {base : Nat} (h : OwnD w X S gR cR G C W) (lo : LoD base X S gR G W.ss.length) {v1 v2 v3 v4 : Value} (lv : LoV base v1 ∧ LoV base v2 ∧ LoV base v3 ∧ LoV base v4) (hz : SzW W) {i : Nat} (hi : i < W.ss.length) {s' : Sess} (hc : Chs w w' wS S)
    (hblk : RowTo wS S 46 (W.ss.length * 5) []) (hS : ∀ k j, k ≠ i → j < 5 → wS.cell? ⟨S, k * 5 + j, none⟩ = w.cell? ⟨S, k * 5 + j, none⟩)
    (c0 : wS.cell? ⟨S, i * 5, none⟩ = some (.int .i64 s'.st)) (c1 : wS.cell? ⟨S, i * 5 + 1, none⟩ = some v1) (c2 : wS.cell? ⟨S, i * 5 + 2, none⟩ = some v2) (c3 : wS.cell? ⟨S, i * 5 + 3, none⟩ = some v3) (c4 : wS.cell? ⟨S, i * 5 + 4, none⟩ = some v4)
    (l1 : Lst w' w'.heap.size v1 s'.set) (l2 : Lst w' w'.heap.size v2 s'.prep) (l3 : Lst w' w'.heap.size v3 s'.sav) (l4 : Lst w' w'.heap.size v4 s'.wr) : EndW w' base X S (W.put i s') := by
  have cc : ∀ j, w'.cell? ⟨S, j, none⟩ = wS.cell? ⟨S, j, none⟩ := fun j => World.cell?_of_block hc.here
  refine h.left lo (LoV.slc lo.r) lv hz hi hc.size (h.box.same (hc.other X h.box.lt h.neXS)) (hblk.same hc.here) ((h.rows.same (hc.other gR h.rows.row.lt h.neRS)).lst (by have := hz.rows.1; omega) hz.rows.sz)
    (fun k j hk hj => (cc _).trans (hS k j hk hj)) (fun k j hk hne hj => hc.other _ (h.ls k j hk hj).row.lt (h.neGS k j hk hj)) ⟨(cc _).trans c0, (cc _).trans c1, (cc _).trans c2, (cc _).trans c3, (cc _).trans c4, l1, l2, l3, l4⟩
/-- a list of session i, still as it was -/
theorem OwnD.li_kept {w w' wS : World} {X S gR cR : Nat} {G C : Nat → Nat → Nat} {W : Wd} (h : OwnD w X S gR cR G C W) (hz : SzW W) {i j : Nat} (hi : i < W.ss.length) (hj : j < 4) (hc : Chs w w' wS S) : Lst w' w'.heap.size (slc (G i j) (W.ss[i].li j).length (C i j)) (W.ss[i].li j) :=
  ((h.ls i j hi hj).same (hc.other _ (h.ls i j hi hj).row.lt (h.neGS i j hi hj))).lst (by have := (hz.li i j hi hj).1; omega) (hz.li i j hi hj).sz

set_option maxHeartbeats 2000000 in
theorem begin_ok (base X S gR cR : Nat) (G C : Nat → Nat → Nat) (W : Wd) (i : Nat) (w : World) (h : OwnD w X S gR cR G C W) (lo : LoD base X S gR G W.ss.length) (hz : SzW W) (hb : base ≤ w.heap.size) (hi : i < W.ss.length) (hst : W.ss[i].st = 0) :
    Calls Tryd.prog 39 #[.pointer (some ⟨S, i * 5, none⟩)] w (DonePost w base X S gR G W.ss.length (W.put i { W.ss[i] with st := 1, sav := W.ss[i].set })) := by
  have c0 := h.st i hi
  rw [hst] at c0
  have c1 : w.cell? ⟨S, i * 5 + 1, none⟩ = some (.slice (some ⟨G i 0, 0, none⟩) W.ss[i].set.length (C i 0)) := h.cs i 0 hi (by omega)
  have hSw := h.blk.lt
  have hO := h.ls i 0 hi (by omega)
  have hne := h.neGS i 0 hi (by omega)
  have f0 := h.blk.frozen (i * 5)
  have f3 := h.blk.frozen (i * 5 + 3)
  obtain ⟨u3, d3⟩ := h.blk.any (j := i * 5 + 3) (by omega)
  have hs0 := (hz.li i 0 hi (by omega))
  have H := Lib.hid h
  have HO := Lib.hid hO
  have HZ := Lib.hid hz
  have H60 := Lib.hid hs0
  clear h hO hs0
  go_enter Tryd.func39, Tryd.ntmps39
  go_wp2_with fail
  have ch1 := ((Chs.refl w S).setS (j := i * 5) (.int .i64 1)).alloc hSw (.cells #[.int .i64 0, .string ⟨#[]⟩, .int .i64 0] 30)
  have O1 : Lst ((w.setCell ⟨S, i * 5, none⟩ (.int .i64 1)).alloc (.cells #[.int .i64 0, .string ⟨#[]⟩, .int .i64 0] 30)) ((w.setCell ⟨S, i * 5, none⟩ (.int .i64 1)).alloc (.cells #[.int .i64 0, .string ⟨#[]⟩, .int .i64 0] 30)).heap.size (.slice (some ⟨G i 0, 0, none⟩) W.ss[i].set.length (C i 0)) W.ss[i].set :=
    (HO.out.same (ch1.other _ HO.out.row.lt hne)).lst (by have := H60.out.1; omega) H60.out.sz
  refine (copyPairs_any _ W.ss[i].set _ O1).mono ?_
  rintro e w2 ⟨g, rfl, q, rr, hy⟩
  have ch2 := ch1.below hy ch1.size hSw
  have X0 : RowTo w2 w.heap.size 30 3 [.int .i64 0, .string ⟨#[]⟩, .int .i64 0] := by
    have := (RowTo.whole (w.setCell ⟨S, i * 5, none⟩ (.int .i64 1)) #[.int .i64 0, .string ⟨#[]⟩, .int .i64 0] 30).below hy (by simp [World.setCell])
    simpa [World.setCell] using this
  have cS : ∀ j, w2.cell? ⟨S, j, none⟩ = (w.setCell ⟨S, i * 5, none⟩ (.int .i64 1)).cell? ⟨S, j, none⟩ := fun j => World.cell?_of_block ch2.here
  have fS : ∀ j, w2.frozen? ⟨S, j, none⟩ = (w.setCell ⟨S, i * 5, none⟩ (.int .i64 1)).frozen? ⟨S, j, none⟩ := fun j => World.frozen?_of_block ch2.here
  have d3' : w2.cell? ⟨S, i * 5 + 3, none⟩ = some u3 := by rw [cS, cell_off _ (by omega)]; exact d3
  have f3' : w2.frozen? ⟨S, i * 5 + 3, none⟩ = false := by rw [fS, World.frozen?_setCell]; exact f3
  have hgw : w.heap.size < g := by have := q; simp [World.setCell] at this; omega
  have HC := Lib.hid ch2
  have HX := Lib.hid X0
  have HR := Lib.hid rr
  clear ch1 ch2 O1 hy X0 cS fS rr d3 f3 q
  go_wp2_with fail
  refine (done_any _).mono ?_
  rintro e w3 ⟨rfl, hy3⟩
  have ch3 := (HC.out.setS (j := i * 5 + 3) (.slice (some ⟨g, 0, none⟩) W.ss[i].set.length W.ss[i].set.length)).below hy3 (by have := HC.out.size; simpa [World.setCell] using this) hSw
  have X3 := (HX.out.other (p := ⟨S, i * 5 + 3, none⟩) (by show S ≠ _; omega) (.slice (some ⟨g, 0, none⟩) W.ss[i].set.length W.ss[i].set.length)).below hy3 (by have := HX.out.lt; simpa [World.setCell] using this)
  have R3 := (HR.out.other (p := ⟨S, i * 5 + 3, none⟩) (by show S ≠ g; omega) (.slice (some ⟨g, 0, none⟩) W.ss[i].set.length W.ss[i].set.length)).below hy3 (by have := HR.out.lt; simpa [World.setCell] using this)
  have r0 := X3.cell (j := 0) (by simp)
  have r1 := X3.cell (j := 1) (by simp)
  have r2 := X3.cell (j := 2) (by simp)
  have s0 := X3.frozen 0
  have s1 := X3.frozen 1
  have s2 := X3.frozen 2
  simp only [List.getElem_cons_zero, List.getElem_cons_succ] at r0 r1 r2
  have HC3 := Lib.hid ch3
  have HR3 := Lib.hid R3
  clear ch3 X3 hy3 R3
  unfold ansV
  go_wp2
  refine bodyPost_ret (v := .agg #[.int .i64 1, .string ⟨#[]⟩, .int .i64 0]) (by simp [results, Tryd.results39, go_sem, r0, r1, r2]) rfl ?_
  have ch := ((HC3.out.setN (p := ⟨w.heap.size, 0, none⟩) (Nat.le_refl _) hSw (.int .i64 1)).setN (p := ⟨w.heap.size, 1, none⟩) (Nat.le_refl _) hSw (.string ⟨#[]⟩)).setN (p := ⟨w.heap.size, 2, none⟩) (Nat.le_refl _) hSw (.int .i64 0)
  refine ⟨rfl, ?_, ch.bel lo.s hb, fun b hb _ h2 _ _ => ch.other b hb h2⟩
  have hh := H.out
  have hzz := HZ.out
  have hrow := (hh.blk.hit (j := i * 5) (.int .i64 1)).hit (j := i * 5 + 3) (.slice (some ⟨g, 0, none⟩) W.ss[i].set.length W.ss[i].set.length)
  refine hh.turned lo ?_ (v3 := .slice (some ⟨g, 0, none⟩) W.ss[i].set.length W.ss[i].set.length) hzz hi ch hrow (fun k j hk hj => ?_) ?_ ?_ ?_ ?_ ?_ (hh.li_kept hzz hi (j := 0) (by omega) ch) (hh.li_kept hzz hi (j := 1) (by omega) ch) ?_ (hh.li_kept hzz hi (j := 3) (by omega) ch)
  · exact ⟨lo.v hi (by omega), lo.v hi (by omega), LoV.at (by omega), lo.v hi (by omega)⟩
  · rw [cell_off _ (by omega), cell_off _ (by omega)]
  · rw [cell_off _ (by omega)]; exact cell_put hh.blk (by omega) _
  · rw [cell_off _ (by omega), cell_off _ (by omega)]; exact hh.cs i 0 hi (by omega)
  · rw [cell_off _ (by omega), cell_off _ (by omega)]; exact hh.cs i 1 hi (by omega)
  · exact cell_put (hh.blk.hit _) (by omega) _
  · rw [cell_off _ (by omega), cell_off _ (by omega)]; exact hh.cs i 3 hi (by omega)
  · have hgr : w.heap.size ≠ g := by omega
    have R4 := ((HR3.out.other (p := ⟨w.heap.size, 0, none⟩) hgr (.int .i64 1)).other (p := ⟨w.heap.size, 1, none⟩) hgr (.string ⟨#[]⟩)).other (p := ⟨w.heap.size, 2, none⟩) hgr (.int .i64 0)
    exact R4.lst (Nat.le_refl _) R4.lt (by have := H60.out.1; show W.ss[i].set.length * 32 ≤ _; have e : (W.ss[i].li 0).length = W.ss[i].set.length := rfl; omega) H60.out.sz

set_option maxHeartbeats 1000000 in
theorem reset_no (w : World) (p : Addr) (st : Int) (hc : w.cell? p = some (.int .i64 st)) (hst : st ≠ 0) :
    Calls Tryd.prog 41 #[.pointer (some p)] w fun e w' => e = .returned (ansV 4 tNotIn) ∧ Below w.heap.size w w' := by
  have hp := World.block_lt_of_cell? w _ hc
  have h1 : (st != 0) = true := bne_iff_ne.2 hst
  clear hst
  go_enter Tryd.func41, Tryd.ntmps41
  go_wp2_with fail
  refine (failure_any tNotIn _).mono ?_
  rintro e w9 ⟨rfl, hb9⟩
  have X9 := (RowTo.whole w #[.int .i64 0, .string ⟨#[]⟩, .int .i64 0] 30).below hb9 (by simp)
  have r0 := X9.cell (j := 0) (by simp)
  have r1 := X9.cell (j := 1) (by simp)
  have r2 := X9.cell (j := 2) (by simp)
  have s0 := X9.frozen 0
  have s1 := X9.frozen 1
  have s2 := X9.frozen 2
  simp only [List.getElem_cons_zero, List.getElem_cons_succ] at r0 r1 r2
  have B9 := Lib.hid (bel_add' ((Below.refl w.heap.size w).alloc (Nat.le_refl _) _) hb9 (by simp))
  clear X9 hb9
  unfold ansV
  go_wp2
  refine bodyPost_ret (v := .agg #[.int .i64 4, .string tNotIn, .int .i64 0]) (by simp [results, Tryd.results41, go_sem, r0, r1, r2]) rfl ⟨rfl, ?_⟩
  exact ((B9.out.setCell (by simp) _).setCell (by simp) _).setCell (by simp) _

set_option maxHeartbeats 2000000 in
theorem reset_ok (base X S gR cR : Nat) (G C : Nat → Nat → Nat) (W : Wd) (i : Nat) (w : World) (h : OwnD w X S gR cR G C W) (lo : LoD base X S gR G W.ss.length) (hz : SzW W) (hb : base ≤ w.heap.size) (hi : i < W.ss.length) (hst : W.ss[i].st = 0) :
    Calls Tryd.prog 41 #[.pointer (some ⟨S, i * 5, none⟩)] w (DonePost w base X S gR G W.ss.length (W.put i { W.ss[i] with set := [], prep := [] })) := by
  have c0 := h.st i hi
  rw [hst] at c0
  have hSw := h.blk.lt
  have f1 := h.blk.frozen (i * 5 + 1)
  have f2 := h.blk.frozen (i * 5 + 2)
  obtain ⟨u1, d1⟩ := h.blk.any (j := i * 5 + 1) (by omega)
  obtain ⟨u2, d2⟩ := h.blk.any (j := i * 5 + 2) (by omega)
  have H := Lib.hid h
  have HZ := Lib.hid hz
  have HT := Lib.hid hst
  clear h hst
  go_enter Tryd.func41, Tryd.ntmps41
  go_wp2_with fail
  have ch1 := (((Chs.refl w S).setS (j := i * 5 + 1) (.slice none 0 0)).setS (j := i * 5 + 2) (.slice none 0 0)).alloc hSw (.cells #[.int .i64 0, .string ⟨#[]⟩, .int .i64 0] 30)
  have X0 : RowTo (((w.setCell ⟨S, i * 5 + 1, none⟩ (.slice none 0 0)).setCell ⟨S, i * 5 + 2, none⟩ (.slice none 0 0)).alloc (.cells #[.int .i64 0, .string ⟨#[]⟩, .int .i64 0] 30)) w.heap.size 30 3 [.int .i64 0, .string ⟨#[]⟩, .int .i64 0] := by
    have := RowTo.whole ((w.setCell ⟨S, i * 5 + 1, none⟩ (.slice none 0 0)).setCell ⟨S, i * 5 + 2, none⟩ (.slice none 0 0)) #[.int .i64 0, .string ⟨#[]⟩, .int .i64 0] 30
    simpa [World.setCell] using this
  refine (done_any _).mono ?_
  rintro e w3 ⟨rfl, hy3⟩
  have ch3 := ch1.below hy3 ch1.size hSw
  have X3 := X0.below hy3 X0.lt
  have r0 := X3.cell (j := 0) (by simp)
  have r1 := X3.cell (j := 1) (by simp)
  have r2 := X3.cell (j := 2) (by simp)
  have s0 := X3.frozen 0
  have s1 := X3.frozen 1
  have s2 := X3.frozen 2
  simp only [List.getElem_cons_zero, List.getElem_cons_succ] at r0 r1 r2
  have HC3 := Lib.hid ch3
  clear ch1 ch3 X0 X3 hy3
  unfold ansV
  go_wp2
  refine bodyPost_ret (v := .agg #[.int .i64 1, .string ⟨#[]⟩, .int .i64 0]) (by simp [results, Tryd.results41, go_sem, r0, r1, r2]) rfl ?_
  have ch := ((HC3.out.setN (p := ⟨w.heap.size, 0, none⟩) (Nat.le_refl _) hSw (.int .i64 1)).setN (p := ⟨w.heap.size, 1, none⟩) (Nat.le_refl _) hSw (.string ⟨#[]⟩)).setN (p := ⟨w.heap.size, 2, none⟩) (Nat.le_refl _) hSw (.int .i64 0)
  refine ⟨rfl, ?_, ch.bel lo.s hb, fun b hb _ h2 _ _ => ch.other b hb h2⟩
  have hh := H.out
  have hzz := HZ.out
  have hrow := (hh.blk.hit (j := i * 5 + 1) (.slice none 0 0)).hit (j := i * 5 + 2) (.slice none 0 0)
  refine hh.turned lo ?_ (v1 := .slice none 0 0) (v2 := .slice none 0 0) hzz hi ch hrow (fun k j hk hj => ?_) ?_ ?_ ?_ ?_ ?_ (Lst.none_ _ _) (Lst.none_ _ _) (hh.li_kept hzz hi (j := 2) (by omega) ch) (hh.li_kept hzz hi (j := 3) (by omega) ch)
  · exact ⟨LoV.non _ _ _, LoV.non _ _ _, lo.v hi (by omega), lo.v hi (by omega)⟩
  · rw [cell_off _ (by omega), cell_off _ (by omega)]
  · rw [cell_off _ (by omega), cell_off _ (by omega)]; exact hh.st i hi
  · rw [cell_off _ (by omega)]; exact cell_put hh.blk (by omega) _
  · exact cell_put (hh.blk.hit _) (by omega) _
  · rw [cell_off _ (by omega), cell_off _ (by omega)]; exact hh.cs i 2 hi (by omega)
  · rw [cell_off _ (by omega), cell_off _ (by omega)]; exact hh.cs i 3 hi (by omega)
end Go.Proofs.YtpbaobmegomfpabDoor

/-
  Plain mathematics: a Put in a world that may be.
-/
namespace Go.Proofs.YtpbaobmegomfpabDoor
open Go.RowKit
set_option linter.unusedVariables false

/-- an ordered list whose keys are all in another is no longer -/
theorem sub_len : ∀ {R l : PL}, risingB R = true → risingB l = true → (∀ p ∈ l, fndL R p.1 = true) → l.length ≤ R.length
  | [], [], _, _, _ => Nat.le_refl _
  | [], p :: l, _, _, h => by have := h p (by simp); cases this
  | q :: R, [], _, _, _ => by simp
  | q :: R, p :: l, hR, hl, h => by
    have tail : ∀ x, ltB q.1 x = true → fndL (q :: R) x = true → fndL R x = true := fun x hx hf => by
      unfold fndL at hf ⊢
      rwa [atL_no (eqB_false.2 (ltB_ne hx))] at hf
    have hp := h p (by simp)
    cases e : eqB q.1 p.1
    · -- the head of R is before p
      have hqp : ltB q.1 p.1 = true := by
        unfold fndL at hp
        rw [atL_no e] at hp
        obtain ⟨v, hv⟩ := Option.isSome_iff_exists.1 hp
        exact rising_head hR (p.1, v) (atL_mem hv)
      have := sub_len (R := R) (l := p :: l) (rising_tail hR) hl (fun x hx => by
        refine tail x.1 ?_ (h x hx)
        rcases List.mem_cons.1 hx with rfl | hx
        · exact hqp
        · exact ltB_trans hqp (rising_head hl x hx))
      simp only [List.length_cons] at this ⊢; omega
    · have heq := eqB_iff.1 e
      have := sub_len (R := R) (l := l) (rising_tail hR) (rising_tail hl) (fun x hx => tail x.1 (by rw [heq]; exact rising_head hl x hx) (h x (by simp [hx])))
      simp only [List.length_cons]; omega
theorem fnd_ins {l : PL} {k v k' : ByteArray} (h : risingB l = true) : fndL (insL l k v) k' = (eqB k k' || fndL l k') := by
  unfold fndL
  rw [at_ins h]
  cases eqB k k' <;> simp
theorem sub_less {R l : PL} {k : ByteArray} (hR : risingB R = true) (hl : risingB l = true) (h : ∀ p ∈ l, fndL R p.1 = true) (hk : fndL R k = true) (hn : fndL l k = false) : l.length < R.length := by
  have h1 := sub_len (l := insL l k ⟨#[]⟩) hR (ins_rising hl) (fun p hp => by
    rcases ins_mem hp with rfl | hp
    · exact hk
    · exact h p hp)
  have hn' : ¬ (atL l k).isSome = true := by unfold fndL at hn; simp [hn]
  rw [ins_length hl, if_neg hn'] at h1
  omega
theorem allF_rising {R : PL} (h : risingB R = true) : ∀ l : PL, risingB (allF R l) = true := by
  intro l
  unfold allF
  induction l generalizing R with
  | nil => exact h
  | cons p l ih => rw [List.foldl_cons]; exact ih (by rw [plus_ins h]; exact ins_rising h)
theorem allF_fnd {R : PL} {k : ByteArray} (h : risingB R = true) : ∀ l : PL, fndL (allF R l) k = (fndL R k || fndL l k) := by
  intro l
  unfold allF
  induction l generalizing R with
  | nil => simp [fndL, atL]
  | cons p l ih =>
    rw [List.foldl_cons, ih (by rw [plus_ins h]; exact ins_rising h), plus_ins h, fnd_ins h]
    have : fndL (p :: l) k = (eqB p.1 k || fndL l k) := by
      unfold fndL
      cases e : eqB p.1 k
      · rw [atL_no e]; simp
      · rw [atL_yes e]; simp
    rw [this]
    cases eqB p.1 k <;> cases fndL R k <;> simp
theorem fnd_of_mem {l : PL} {p : ByteArray × ByteArray} (h : p ∈ l) : fndL l p.1 = true := atL_of_mem h

section
variable {W : Wd} (h : WorldOk W)
include h
theorem all_rising : risingB (allL W) = true := allF_rising (pairsB_rising h.rows).1 _
theorem all_rows {p : ByteArray × ByteArray} (hp : p ∈ W.rows) : fndL (allL W) p.1 = true := by
  unfold allL; rw [allF_fnd (pairsB_rising h.rows).1, fnd_of_mem hp]; rfl
theorem all_wr {i : Nat} (hi : i < W.ss.length) {p : ByteArray × ByteArray} (hp : p ∈ W.ss[i].wr) : fndL (allL W) p.1 = true := by
  unfold allL
  rw [allF_fnd (pairsB_rising h.rows).1, fnd_of_mem (List.mem_flatMap.2 ⟨W.ss[i], List.getElem_mem hi, hp⟩)]
  simp
theorem held_cnt {i : Nat} (hi : i < W.ss.length) (key : ByteArray) : heldB W.ss i key = (decide (0 < cntL (W.ss.flatMap (·.wr)) key) && !fndL W.ss[i].wr key) := by
  have hr : ∀ k (hk : k < W.ss.length), risingB W.ss[k].wr = true := fun k hk => (pairsB_rising (h.sess k hk).wr).1
  cases e : heldB W.ss i key
  · symm
    rw [Bool.and_eq_false_iff]
    by_cases hc : 0 < cntL (W.ss.flatMap (·.wr)) key
    · right
      obtain ⟨k, hk, h1⟩ := cnt_pos (ss := W.ss) (key := key) hc
      have hs := (some_cnt (hr k hk)).1 h1
      by_cases hki : k = i
      · subst hki; unfold fndL; rw [hs]; rfl
      · rw [heldB_yes hk hs (by omega)] at e; cases e
    · left; exact decide_eq_false hc
  · obtain ⟨k, hk, hs, hne⟩ := heldB_iff.1 e
    have h1 := (some_cnt (hr k hk)).2 hs
    have h2 := cnt_one (key := key) hk
    have h3 : fndL W.ss[i].wr key = false := by
      cases e2 : fndL W.ss[i].wr key
      · rfl
      · obtain ⟨v, hv⟩ := Option.isSome_iff_exists.1 e2
        have := h.apart i hi _ (atL_mem hv)
        rw [e] at this; cases this
    rw [h3, decide_eq_true (by omega)]; rfl
/-- there is room in the Writes -/
theorem room_wr {i : Nat} (hi : i < W.ss.length) {key : ByteArray} (hf : ¬ (fndL (allL W) key = false ∧ 100 ≤ (allL W).length)) : fndL W.ss[i].wr key = true ∨ W.ss[i].wr.length < 100 := by
  cases e : fndL W.ss[i].wr key
  · right
    have hr := (pairsB_rising (h.sess i hi).wr).1
    cases e2 : fndL (allL W) key
    · have := sub_len (all_rising h) hr (fun p hp => all_wr h hi hp)
      have h3 : ¬ 100 ≤ (allL W).length := fun h3 => hf ⟨e2, h3⟩
      omega
    · have := sub_less (all_rising h) hr (fun p hp => all_wr h hi hp) e2 e
      have := h.all
      omega
  · exact .inl rfl
/-- there is room in the Rows -/
theorem room_rows {key : ByteArray} (hf : ¬ (fndL (allL W) key = false ∧ 100 ≤ (allL W).length)) : fndL W.rows key = true ∨ W.rows.length < 100 := by
  cases e : fndL W.rows key
  · right
    have hr := (pairsB_rising h.rows).1
    cases e2 : fndL (allL W) key
    · have := sub_len (all_rising h) hr (fun p hp => all_rows h hp)
      have h3 : ¬ 100 ≤ (allL W).length := fun h3 => hf ⟨e2, h3⟩
      omega
    · have := sub_less (all_rising h) hr (fun p hp => all_rows h hp) e2 e
      have := h.all
      omega
  · exact .inl rfl
end
end Go.Proofs.YtpbaobmegomfpabDoor

/-
  Walks of the reference's lists: at.
-/
namespace Go.Proofs.YtpbaobmegomfpabDoor
open Go.RowKit
set_option linter.unusedVariables false
set_option maxRecDepth 100000

/-- what 'at' answers -/
def atV (o : Option ByteArray) : Value := match o with | some v => .tuple #[.string v, .bool true] | none => .tuple #[.string ⟨#[]⟩, .bool false]
theorem atL_hit {l : PL} {k : ByteArray} {i : Nat} (hi : i < l.length) (h : eqB l[i].1 k = true) (hn : ∀ j (hj : j < l.length), j < i → eqB l[j].1 k = false) : atL l k = some l[i].2 := by
  induction l generalizing i with
  | nil => simp at hi
  | cons p l ih =>
    cases i with
    | zero => simp only [List.getElem_cons_zero] at h ⊢; unfold atL; rw [if_pos h]
    | succ i =>
      have h0 := hn 0 (by simp) (by omega)
      simp only [List.getElem_cons_zero] at h0
      unfold atL; rw [h0, if_neg (by simp)]
      exact ih (by simpa using hi) (by simpa using h) (fun j hj hji => hn (j + 1) (by simpa using hj) (by omega))
theorem atL_miss {l : PL} {k : ByteArray} (hn : ∀ j (hj : j < l.length), eqB l[j].1 k = false) : atL l k = none := by
  induction l with
  | nil => rfl
  | cons p l ih =>
    have h0 := hn 0 (by simp)
    simp only [List.getElem_cons_zero] at h0
    unfold atL; rw [h0, if_neg (by simp)]
    exact ih (fun j hj => hn (j + 1) (by simpa using hj))

set_option maxHeartbeats 400000 in
theorem at_any (v : Value) (l : PL) (key : ByteArray) (w : World) (B : Nat) (hl : Lst w B v l) :
    Calls Tryd.prog 63 #[v, .string key] w fun e w' => e = .returned (atV (atL l key)) ∧ w = w' := by
  obtain ⟨A, c, rfl, hc⟩ := hl.form
  have hby := hl.bytes
  have HL := Lib.hid hl
  clear hl
  go_enter Tryd.func63, Tryd.ntmps63
  go_wp2
  go_loop [6] (fun i => ∃ k : Nat, k ≤ l.length ∧ i = .int .i64 k ∧ Hid (∀ j (hj : j < l.length), j < k → eqB l[j].1 key = false)) (fun i => l.length - (intOf i).toNat)
  case atStart => exact ⟨0, by omega, rfl, fun j hj h => by omega⟩
  case round =>
    obtain ⟨k, hk, rfl, hall⟩ := hrel
    by_cases hlt : k < l.length
    · obtain ⟨b, off, rfl, hb, c0, c1⟩ := HL.out.pt hlt
      go_wp2
      · have h : (l[k].1.toList == key.toList) = true := by assumption
        have hf := atL_hit hlt h (fun j hj hjk => hall.out j hj hjk)
        go_ret2
        exact ⟨by rw [hf]; rfl, rfl⟩
      · have h : (l[k].1.toList == key.toList) = false := by assumption
        go_round
        case rel =>
          refine ⟨k + 1, by omega, by go_num, fun j hj hjk => ?_⟩
          by_cases e : j = k
          · subst e; exact h
          · exact hall.out j hj (by omega)
        case measure => simp [intOf]; omega
    · have hk := Lib.hid (atL_miss (fun j hj => hall.out j hj (by omega)))
      go_wp2
      go_ret2
      exact ⟨by rw [hk.out]; rfl, rfl⟩
end Go.Proofs.YtpbaobmegomfpabDoor

/-
  Walks of the reference's isHeld and allRows.
-/
namespace Go.Proofs.YtpbaobmegomfpabDoor
open Go.RowKit
set_option linter.unusedVariables false
set_option maxRecDepth 100000

set_option maxHeartbeats 1000000 in
theorem isHeld_any (r s : Value) (W : Wd) (me : Int) (key : ByteArray) (w : World) (hW : Wld w w.heap.size r s W) :
    Calls Tryd.prog 48 #[.agg #[r, s], .int .i64 me, .string key] w fun e w' => e = .returned (.bool (heldB W.ss me key)) ∧ Below w.heap.size w w' := by
  obtain ⟨hr, hs⟩ := hW
  obtain ⟨A, c, rfl, hc⟩ := hs.form
  obtain ⟨D, d, rfl, hd⟩ := hr.form
  have hby := hs.bytes
  have HS := Lib.hid hs
  clear hs hr
  have b0 : Below w.heap.size w (w.alloc (.cells #[.slice D W.rows.length d, .slice A W.ss.length c] 25)) := (Below.refl _ _).alloc (Nat.le_refl _) _
  go_enter Tryd.func48, Tryd.ntmps48
  go_wp2
  go_loop [7] (fun i => ∃ k : Nat, k ≤ W.ss.length ∧ i = .int .i64 k ∧ Hid (∀ j (hj : j < W.ss.length), j < k → (atL W.ss[j].wr key).isSome = true → (j : Int) = me)) (fun i => W.ss.length - (intOf i).toNat)
  case atStart => exact ⟨0, by omega, rfl, fun j hj h => by omega⟩
  case round =>
    obtain ⟨k, hk, rfl, hall⟩ := hrel
    by_cases hlt : k < W.ss.length
    · obtain ⟨b, off, v1, v2, v3, v4, rfl, hb, hses⟩ := HS.out.pt hlt
      have l4 := hses.l4
      obtain ⟨A4, c4, rfl, _⟩ := l4.form
      have c4' := hses.c4
      have HL := Lib.hid l4
      clear l4 hses
      go_wp2_with fail
      refine (at_any _ _ key _ _ (HL.out.step b0)).mono ?_
      cases ha : atL W.ss[k].wr key with
      | none =>
        rintro e w1 ⟨rfl, rfl⟩
        unfold atV
        have HA := Lib.hid ha
        clear ha
        go_wp2
        go_round
        case rel =>
          refine ⟨k + 1, by omega, by go_num, fun j hj hjk hs => ?_⟩
          by_cases e : j = k
          · subst e; rw [HA.out] at hs; cases hs
          · exact hall.out j hj (by omega) hs
        case measure => simp [intOf]; omega
      | some x =>
        rintro e w1 ⟨rfl, rfl⟩
        unfold atV
        have HA := Lib.hid ha
        clear ha
        by_cases hme : (k : Int) = me
        · have h1 : ((k : Int) != me) = false := by simp [hme]
          have HM := Lib.hid hme
          clear hme
          go_wp2
          go_round
          case rel =>
            refine ⟨k + 1, by omega, by go_num, fun j hj hjk hs => ?_⟩
            by_cases e : j = k
            · subst e; exact HM.out
            · exact hall.out j hj (by omega) hs
          case measure => simp [intOf]; omega
        · have h1 : ((k : Int) != me) = true := bne_iff_ne.2 hme
          have HP := Lib.hid (heldB_yes (me := me) (key := key) hlt (by rw [HA.out]; rfl) hme)
          clear hme
          go_wp2
          go_ret
          exact ⟨by rw [HP.out]; rfl, b0⟩
    · have HP := Lib.hid (heldB_no (fun j hj => hall.out j hj (by omega)))
      go_wp2
      go_ret
      exact ⟨by rw [HP.out]; rfl, b0⟩

theorem allF_nil (out : PL) : allF out [] = out := rfl
theorem allF_cons (out : PL) (p : ByteArray × ByteArray) (l : PL) : allF out (p :: l) = allF (plusL out p.1 ⟨#[]⟩) l := rfl
theorem allF_append (out l m : PL) : allF out (l ++ m) = allF (allF out l) m := by unfold allF; rw [List.foldl_append]
/-- what allRows has gathered: the rest is still to come -/
def AllRel (w : World) (W : Wd) (rest : PL) (cnt : Nat) (v : Value) (wr : World) : Prop :=
  ∃ out, allF out rest = allL W ∧ out.length ≤ 100 + cnt ∧ (∀ p ∈ out, p.1.size ≤ 140737488351232 ∧ p.2.size ≤ 140737488351232) ∧ wr.ownsRow w.heap.size 50 2 v out.length (flat out) ∧ Below w.heap.size w wr
def AllBox (w : World) (r s : Value) (wr : World) : Prop := RowTo wr w.heap.size 25 2 [r, s]
def restOf (ss : List Sess) (i : Nat) : PL := (ss.drop i).flatMap (·.wr)
theorem restOf_step {ss : List Sess} {i : Nat} (h : i < ss.length) : restOf ss i = ss[i].wr ++ restOf ss (i + 1) := by
  unfold restOf; rw [List.drop_eq_getElem_cons h]; rfl
theorem restOf_end {ss : List Sess} {i : Nat} (h : ss.length ≤ i) : restOf ss i = [] := by
  unfold restOf; rw [List.drop_eq_nil_of_le h]; rfl

set_option maxHeartbeats 2000000 in
theorem allRows_any (r s : Value) (W : Wd) (w : World) (hW : Wld w w.heap.size r s W) (hr100 : W.rows.length ≤ 100) (h8 : W.ss.length ≤ 8) (hw100 : ∀ i (hi : i < W.ss.length), W.ss[i].wr.length ≤ 100) :
    Calls Tryd.prog 49 #[.agg #[r, s]] w fun e w' => ∃ v', e = .returned v' ∧ w'.ownsRow w.heap.size 50 2 v' (allL W).length (flat (allL W)) ∧ Below w.heap.size w w' := by
  obtain ⟨hr, hs⟩ := hW
  obtain ⟨A, c, rfl, hc⟩ := hs.form
  obtain ⟨D, d, rfl, hd⟩ := hr.form
  have hby := hs.bytes
  have HS := Lib.hid hs
  have HR := Lib.hid hr
  have HN := Lib.hid hw100
  clear hs hr hw100
  have b0 : Below w.heap.size w (w.alloc (.cells #[.slice D W.rows.length d, .slice A W.ss.length c] 25)) := (Below.refl _ _).alloc (Nat.le_refl _) _
  have HX := Lib.hid (RowTo.whole w #[.slice D W.rows.length d, .slice A W.ss.length c] 25)
  go_enter Tryd.func49, Tryd.ntmps49
  go_wp2_with fail
  refine (pairs_any _ W.rows _ (HR.out.step b0)).mono ?_
  rintro e w1 ⟨v1, rfl, ho1, hb1⟩
  have HX1 := Lib.hid (HX.out.below hb1 HX.out.lt)
  have hown0 : Hid (w1.ownsRow w.heap.size 50 2 v1 W.rows.length (flat W.rows)) := ownsRow_less ho1 (by simp)
  have bel1 := Lib.hid (bel_add' b0 hb1 b0.size)
  clear ho1 hb1
  go_wp2
  go_loopw [3, 4] (fun o i wr => ∃ k : Nat, k ≤ W.ss.length ∧ i = .int .i64 k ∧ AllBox w (.slice D W.rows.length d) (.slice A W.ss.length c) wr ∧ AllRel w W (restOf W.ss k) (k * 100) o wr) (fun _ i _ => W.ss.length - (intOf i).toNat)
  case atStart => exact ⟨0, by omega, rfl, HX1.out, W.rows, rfl, by omega, HR.out.sizes, hown0.out, bel1.out⟩
  case round =>
    clear hown0 bel1 HX1 HX b0
    obtain ⟨i, hi, rfl, hbox, out, hout, hol, hosz, hown, bel⟩ := hrel
    have x0 := hbox.cell (j := 0) (by simp)
    have x1 := hbox.cell (j := 1) (by simp)
    simp only [List.getElem_cons_zero, List.getElem_cons_succ] at x0 x1
    have hxl := hbox.lt
    by_cases hlt : i < W.ss.length
    · obtain ⟨b, off, v1, v2, v3, v4, rfl, hb, hses⟩ := HS.out.pt hlt
      have l4 := hses.l4
      obtain ⟨A4, c4, rfl, _⟩ := l4.form
      have c4' := hses.c4
      have h100 := HN.out i hlt
      have hb4 := l4.bytes
      have HL := Lib.hid l4
      have HO := Lib.hid (show allF out (W.ss[i].wr.drop 0 ++ restOf W.ss (i + 1)) = allL W by rw [List.drop_zero, ← restOf_step hlt]; exact hout)
      have HZ := Lib.hid hosz
      have HW := Lib.hid hown
      have HB := Lib.hid bel
      have HX := Lib.hid hbox
      clear l4 hses hout hosz hown bel hbox
      generalize hsk : W.ss[i].wr = l at *
      have HK := Lib.hid hsk
      clear hsk
      go_wp2
      go_loopw [3, 5] (fun o j wr => ∃ k : Nat, k ≤ l.length ∧ j = .int .i64 k ∧ AllBox w (.slice D W.rows.length d) (.slice (some ⟨b, off, none⟩) W.ss.length c) wr ∧ AllRel w W (l.drop k ++ restOf W.ss (i + 1)) (i * 100 + k) o wr) (fun _ j _ => l.length - (intOf j).toNat)
      case atStart => exact ⟨0, by omega, rfl, HX.out, out, HO.out, by omega, HZ.out, HW.out, HB.out⟩
      case round =>
        clear HX HW HB HO HZ x0 x1 hxl hol
        obtain ⟨k, hk, rfl, hbox, out, hout, hol, hosz, hown, bel⟩ := hrel
        have x0 := hbox.cell (j := 0) (by simp)
        have x1 := hbox.cell (j := 1) (by simp)
        simp only [List.getElem_cons_zero, List.getElem_cons_succ] at x0 x1
        have hxl := hbox.lt
        have y4 := (bel.cell (p := ⟨b, off + i * 5 + 4, none⟩) hb).trans c4'
        by_cases hlk : k < l.length
        · obtain ⟨b', off', rfl, hb', d0, d1⟩ := HL.out.pt hlk
          have z0 := (bel.cell (p := ⟨b', off' + k * 2, none⟩) hb').trans d0
          obtain ⟨zk, _⟩ := HL.out.key hlk
          have HD := Lib.hid (show allF (plusL out l[k].1 ⟨#[]⟩) (l.drop (k + 1) ++ restOf W.ss (i + 1)) = allL W by rw [← hout, List.drop_eq_getElem_cons hlk]; rfl)
          have hpl := plusL_len out l[k].1 ⟨#[]⟩
          have HM := Lib.hid (fun q (hq : q ∈ plusL out l[k].1 ⟨#[]⟩) => plusL_mem hq)
          have HZ := Lib.hid hosz
          have HX := Lib.hid hbox
          have HB := Lib.hid bel
          have HW := Lib.hid (own_lst hown (by omega) hosz)
          clear hout hosz hown bel hbox
          go_wp2_with fail
          refine (plus_any _ out l[k].1 _ _ HW.out).mono ?_
          rintro e w2 ⟨v2, rfl, ho2, hb2⟩
          have HW2 := Lib.hid (ownsRow_less ho2 HB.out.size)
          have HB2 := Lib.hid (bel_add' HB.out hb2 HB.out.size)
          have HX2 := Lib.hid (HX.out.below hb2 HX.out.lt)
          clear ho2 hb2
          go_wp2
          go_roundw
          case rel =>
            refine ⟨k + 1, by omega, by go_num, HX2.out, plusL out l[k].1 ⟨#[]⟩, HD.out, by omega, fun q hq => ?_, HW2.out, HB2.out⟩
            rcases HM.out q hq with rfl | hq
            · exact ⟨zk, Nat.zero_le _⟩
            · exact HZ.out q hq
          case measure => simp [intOf]; omega
        · have HD := Lib.hid (show allF out (restOf W.ss (i + 1)) = allL W by rw [← hout, List.drop_eq_nil_of_le (by omega)]; rfl)
          have HZ := Lib.hid hosz
          have HX := Lib.hid hbox
          have HB := Lib.hid bel
          have HW := Lib.hid hown
          clear hout hosz hown bel hbox
          go_wp2
          go_roundw
          case rel => exact ⟨i + 1, by omega, by go_num, HX.out, out, HD.out, by omega, HZ.out, HW.out, HB.out⟩
          case measure => simp [intOf]; omega
    · have HD := Lib.hid (show out = allL W by rw [← hout, restOf_end (by omega)]; rfl)
      have HB := Lib.hid bel
      have HW := Lib.hid hown
      clear hout hosz hown bel hbox
      go_wp2
      go_ret
      exact ⟨_, rfl, by rw [← HD.out]; exact HW.out, HB.out⟩
end Go.Proofs.YtpbaobmegomfpabDoor

/-
  Walks of back.countWriters.
-/
namespace Go.Proofs.YtpbaobmegomfpabDoor
open Go.RowKit Go.Maps Go.WideMaps
set_option linter.unusedVariables false
set_option linter.unusedSimpArgs false
set_option maxRecDepth 100000

theorem strLaw : Keyed Tryd.prog 9 := string_keyed Tryd.underlying9
theorem zeroInt (w : World) : (zeroValue 3).run Tryd.prog w = .ok (.int .i64 0) w := by kernel_rfl
theorem klKey {s : ByteArray} (h : s.size ≤ 140737488351232) : keyOf Tryd.prog 9 (.string s) = some (kl s) := keyOf_string_mk Tryd.underlying9 (by unfold maxLen; omega)
theorem lit_inj {a b : Int} (h : (DataW.lit (.int .i64 a) : DataW Unit) = .lit (.int .i64 b)) : a = b := by simpa using h
/-- the map after the first k rows -/
def RowsRel (w : World) (W : Wd) (r s : Value) (k : Nat) (wr : World) : Prop :=
  ∃ D : DataW Unit, wr.ownsMap Tryd.prog 9 (plainElem Tryd.prog 3) (w.heap.size + 1) k D ∧ MapOk D (W.rows.take k) (fun _ => 0) ∧ AllBox w r s wr ∧ Below w.heap.size w wr
/-- the map where the rest of the writes is still to come -/
def CntRel (w : World) (W : Wd) (r s : Value) (rest : PL) (n : Nat) (wr : World) : Prop :=
  ∃ (D : DataW Unit) (R : PL) (cnt : ByteArray → Nat), wr.ownsMap Tryd.prog 9 (plainElem Tryd.prog 3) (w.heap.size + 1) n D ∧ MapOk D R cnt ∧ risingB R = true ∧ allF R rest = allL W ∧
    (∀ key, cnt key + cntL rest key = cntL (W.ss.flatMap (·.wr)) key) ∧ (∀ key, cnt key ≤ n) ∧ AllBox w r s wr ∧ Below w.heap.size w wr
theorem box_grown {w wr w1 : World} {r s : Value} (h : AllBox w r s wr) (hg : wr.grownBy w1 (some (w.heap.size + 1))) : AllBox w r s w1 := h.same (hg.block _ h.lt (by simp))
theorem bel_grown {w wr w1 : World} (h : Below w.heap.size w wr) (hg : wr.grownBy w1 (some (w.heap.size + 1))) : Below w.heap.size w w1 := h.grown hg h.size (fun k hk => by injection hk with hk; omega)

def CountPost (w : World) (W : Wd) (e : Ending) (w' : World) : Prop :=
  ∃ (b n : Nat) (D : DataW Unit), e = .returned (.map (some b)) ∧ w'.ownsMap Tryd.prog 9 (plainElem Tryd.prog 3) b n D ∧ MapOk D (allL W) (cntL (W.ss.flatMap (·.wr))) ∧ n ≤ 1000 ∧ w.heap.size ≤ b ∧ Below w.heap.size w w'

set_option maxHeartbeats 4000000 in
theorem countWriters_any (r s : Value) (W : Wd) (w : World) (hW : Wld w w.heap.size r s W) (hr100 : W.rows.length ≤ 100) (hrise : risingB W.rows = true) (h8 : W.ss.length ≤ 8) (hw100 : ∀ i (hi : i < W.ss.length), W.ss[i].wr.length ≤ 100) :
    Calls Tryd.prog 54 #[.agg #[r, s]] w (CountPost w W) := by
  obtain ⟨hr, hs⟩ := hW
  obtain ⟨A, c, rfl, hc⟩ := hs.form
  obtain ⟨D, d, rfl, hd⟩ := hr.form
  have hby := hs.bytes
  have HS := Lib.hid hs
  have HR := Lib.hid hr
  have HN := Lib.hid hw100
  have HI := Lib.hid hrise
  clear hs hr hw100 hrise
  have hmm := @run_makeMap Tryd.prog
  go_enter Tryd.func54, Tryd.ntmps54
  go_wp2
  clear hmm
  go_loopw [14] (fun i wr => ∃ k : Nat, k ≤ W.rows.length ∧ i = .int .i64 k ∧ RowsRel w W (.slice D W.rows.length d) (.slice A W.ss.length c) k wr) (fun i _ => W.rows.length - (intOf i).toNat)
  case atStart =>
    refine ⟨0, by omega, rfl, .map [], ?_, mapOk_empty, (RowTo.whole w #[.slice D W.rows.length d, .slice A W.ss.length c] 25).alloc _, ?_⟩
    · have := World.ownsMap_made (H := Unit) (w.alloc (.cells #[.slice D W.rows.length d, .slice A W.ss.length c] 25)) Tryd.prog 9 (plainElem Tryd.prog 3)
      simpa using this
    · repeat' (first | exact Below.refl _ _ | assumption | with_reducible refine below_drewN ?_ _ | with_reducible refine Below.drew ?_ | with_reducible refine Below.setCell ?_ ?_ _ | with_reducible refine Below.alloc ?_ ?_ _ | (simp; done) | (simp; omega))
  case round =>
    obtain ⟨k, hk, rfl, M, hown, hmap, hbox, bel⟩ := hrel
    by_cases hlt : k < W.rows.length
    · obtain ⟨b, off, rfl, hb, c0, c1⟩ := HR.out.pt hlt
      obtain ⟨z0, z1⟩ := HR.out.key hlt
      have d0 := (bel.cell (p := ⟨b, off + k * 2, none⟩) hb).trans c0
      have d1 := (bel.cell (p := ⟨b, off + k * 2 + 1, none⟩) hb).trans c1
      have hkey := klKey z0
      have HP := Lib.hid (mapOk_put (k := W.rows[k].1) (v := W.rows[k].2) (c := 0) hmap (hown.tidy strLaw) (rising_take HI.out k) trivial)
      have HT := Lib.hid (ins_take HI.out hlt)
      have HO := Lib.hid hown
      have HX := Lib.hid hbox
      have HB := Lib.hid bel
      clear hown hmap hbox bel c0 c1
      go_wp2_with (first
        | (at_mapUpdate; refine wpList_mapUpdate_own _ rfl _ _ _ 85 rfl 9 3 strLaw Tryd.underlying85 _ (w.heap.size + 1) k _ rfl (HO.out.alloc _) (by unfold maxLen; omega) _ _ _ rfl rfl hkey _ [] (plainElem_int Tryd.underlying3 (WalkArith.wf_i64 (by omega))) ?_; intro w1 hown1 hgrow1)
        | go_in)
      have HO1 := Lib.hid hown1
      have hg := (World.grownBy_alloc wr (.cells #[.string W.rows[k].1, .string W.rows[k].2] 50) (some (w.heap.size + 1))).trans hgrow1
      have HX1 := Lib.hid (box_grown HX.out hg)
      have HB1 := Lib.hid (bel_grown HB.out hg)
      clear hown1 hgrow1 hg
      go_roundw
      case rel =>
        refine ⟨k + 1, by omega, by go_num, _, HO1.out, ?_, HX1.out, HB1.out⟩
        rw [← HT.out]
        exact HP.out.cnt (fun key => by split <;> rfl)
      case measure => simp [intOf]; omega
    · obtain rfl : k = W.rows.length := by omega
      have x1 := hbox.cell (j := 1) (by simp)
      simp only [List.getElem_cons_zero, List.getElem_cons_succ] at x1
      rw [List.take_length] at hmap
      have HO := Lib.hid (hown.mono hr100)
      have HM := Lib.hid hmap
      have HX := Lib.hid hbox
      have HB := Lib.hid bel
      clear hown hmap hbox bel
      go_wp2
      go_loopw [25] (fun i wr => ∃ k : Nat, k ≤ W.ss.length ∧ i = .int .i64 k ∧ CntRel w W (.slice D W.rows.length d) (.slice A W.ss.length c) (restOf W.ss k) (100 + k * 100) wr) (fun i _ => W.ss.length - (intOf i).toNat)
      case atStart => exact ⟨0, by omega, rfl, M, W.rows, _, HO.out, HM.out, HI.out, rfl, fun key => by rw [Nat.zero_add]; rfl, fun key => Nat.zero_le _, HX.out, HB.out⟩
      case round =>
        clear HO HM HX HB x1
        obtain ⟨i, hi, rfl, M, R, cnt, hown, hmap, hrR, hall, hcnt, hcb, hbox, bel⟩ := hrel
        by_cases hlt : i < W.ss.length
        · obtain ⟨b, off, v1, v2, v3, v4, rfl, hb, hses⟩ := HS.out.pt hlt
          have h100 := HN.out i hlt
          have hall' : allF R (W.ss[i].wr.drop 0 ++ restOf W.ss (i + 1)) = allL W := by rw [List.drop_zero, ← restOf_step hlt]; exact hall
          have hcnt' : ∀ key, cnt key + cntL (W.ss[i].wr.drop 0 ++ restOf W.ss (i + 1)) key = cntL (W.ss.flatMap (·.wr)) key := fun key => by rw [List.drop_zero, ← restOf_step hlt]; exact hcnt key
          generalize hsk : W.ss[i] = s at *
          obtain ⟨d0, d1, d2, d3, d4, l1, l2, l3, l4⟩ := hses.keep (w' := wr) hb (Nat.le_refl _) fun p hp => bel.cell hp
          obtain ⟨A1, c1, rfl, _⟩ := l1.form
          obtain ⟨A2, c2, rfl, _⟩ := l2.form
          obtain ⟨A3, c3, rfl, _⟩ := l3.form
          obtain ⟨A4, c4, rfl, _⟩ := l4.form
          have hb4 := l4.bytes
          have HL := Lib.hid hses.l4
          have HO := Lib.hid (hown.alloc (.cells #[.int .i64 s.st, .slice A1 s.set.length c1, .slice A2 s.prep.length c2, .slice A3 s.sav.length c3, .slice A4 s.wr.length c4] 46))
          have HM := Lib.hid hmap
          have HRR := Lib.hid hrR
          have HA := Lib.hid hall'
          have HC := Lib.hid hcnt'
          have HCB := Lib.hid hcb
          have HX := Lib.hid (RowTo.alloc hbox (.cells #[.int .i64 s.st, .slice A1 s.set.length c1, .slice A2 s.prep.length c2, .slice A3 s.sav.length c3, .slice A4 s.wr.length c4] 46))
          have HB := Lib.hid (bel.alloc bel.size (.cells #[.int .i64 s.st, .slice A1 s.set.length c1, .slice A2 s.prep.length c2, .slice A3 s.sav.length c3, .slice A4 s.wr.length c4] 46))
          clear hown hmap hrR hall hall' hcnt hcnt' hcb hbox bel hses hsk l1 l2 l3 l4
          go_wp2
          clear d0 d1 d2 d3 d4
          go_loopw [32] (fun j wr => ∃ k : Nat, k ≤ s.wr.length ∧ j = .int .i64 k ∧ CntRel w W (.slice D W.rows.length d) (.slice (some ⟨b, off, none⟩) W.ss.length c) (s.wr.drop k ++ restOf W.ss (i + 1)) (100 + i * 100 + k) wr) (fun j _ => s.wr.length - (intOf j).toNat)
          case atStart => exact ⟨0, by omega, rfl, M, R, cnt, HO.out, HM.out, HRR.out, HA.out, HC.out, HCB.out, HX.out, HB.out⟩
          case round =>
            clear HO HM HRR HA HC HCB HX HB
            obtain ⟨k, hk, rfl, M, R, cnt, hown, hmap, hrR, hall, hcnt, hcb, hbox, bel⟩ := hrel
            by_cases hlk : k < s.wr.length
            · obtain ⟨b', off', rfl, hb', m0, m1⟩ := HL.out.pt hlk
              obtain ⟨z0, z1⟩ := HL.out.key hlk
              have d0 := (bel.cell (p := ⟨b', off' + k * 2, none⟩) hb').trans m0
              have d1 := (bel.cell (p := ⟨b', off' + k * 2 + 1, none⟩) hb').trans m1
              have hkey := klKey z0
              have hce := hcb s.wr[k].1
              have HD := Lib.hid (List.drop_eq_getElem_cons hlk)
              have HP := Lib.hid (fun cc => mapOk_put (k := s.wr[k].1) (v := ⟨#[]⟩) (c := cc) hmap (hown.tidy strLaw) hrR trivial)
              have HRR := Lib.hid (ins_rising (k := s.wr[k].1) (v := ⟨#[]⟩) hrR)
              have HPI := Lib.hid (plus_ins (k := s.wr[k].1) (v := ⟨#[]⟩) hrR)
              have HAT := Lib.hid (hmap.at_ s.wr[k].1)
              have HO := Lib.hid hown
              have HA := Lib.hid hall
              have HC := Lib.hid hcnt
              have HCB := Lib.hid hcb
              have HX := Lib.hid hbox
              have HB := Lib.hid bel
              clear hown hmap hrR hall hcnt hcb hbox bel m0 m1
              go_wp2_with (first
                | (at_lookup; refine wpList_lookup_own_int _ rfl _ _ 85 rfl 9 3 .i64 strLaw Tryd.underlying85 Tryd.underlying3 (zeroInt _) (w.heap.size + 1) (100 + i * 100 + k) _ rfl (HO.out.alloc _) _ _ rfl hkey ?_; intro q hat hwq; obtain rfl : q = (cnt s.wr[k].1 : Int) := (lit_inj (HAT.out.symm.trans hat)).symm; clear hat hwq)
                | (at_mapUpdate; refine wpList_mapUpdate_own _ rfl _ _ _ 85 rfl 9 3 strLaw Tryd.underlying85 _ (w.heap.size + 1) (100 + i * 100 + k) _ rfl (HO.out.alloc _) (by unfold maxLen; omega) _ _ _ rfl rfl hkey _ [] (plainElem_int Tryd.underlying3 (WalkArith.wf_i64 (by omega))) ?_; intro w1 hown1 hgrow1)
                | go_in)
              have HO1 := Lib.hid hown1
              have hg := (World.grownBy_alloc wr (.cells #[.string s.wr[k].1, .string s.wr[k].2] 50) (some (w.heap.size + 1))).trans hgrow1
              have HX1 := Lib.hid (box_grown HX.out hg)
              have HB1 := Lib.hid (bel_grown HB.out hg)
              clear hown1 hgrow1 hg
              go_roundw
              case rel =>
                refine ⟨k + 1, by omega, by go_num, _, insL R s.wr[k].1 ⟨#[]⟩, _, HO1.out, by have := HP.out (cnt s.wr[k].1 + 1); simpa using this, HRR.out, ?_, fun key => ?_, fun key => ?_, HX1.out, HB1.out⟩
                · rw [← HA.out, HD.out, List.cons_append, allF_cons, HPI.out]
                · rw [← HC.out key, HD.out, List.cons_append, cntL_cons]
                  cases e : eqB s.wr[k].1 key
                  · simp
                  · rw [eqB_iff.1 e]; simp; omega
                · have := HCB.out key
                  split <;> omega
              case measure => simp [intOf]; omega
            · rw [List.drop_eq_nil_of_le (by omega), List.nil_append] at hall hcnt
              have HO := Lib.hid (hown.mono (n' := 100 + (i + 1) * 100) (by omega))
              have HM := Lib.hid hmap
              have HRR := Lib.hid hrR
              have HA := Lib.hid hall
              have HC := Lib.hid hcnt
              have HCB := Lib.hid (fun key => Nat.le_trans (hcb key) (show 100 + i * 100 + k ≤ 100 + (i + 1) * 100 by omega))
              have HX := Lib.hid hbox
              have HB := Lib.hid bel
              clear hown hmap hrR hall hcnt hcb hbox bel
              go_wp2
              go_roundw
              case rel => exact ⟨i + 1, by omega, by go_num, M, R, cnt, HO.out, HM.out, HRR.out, HA.out, HC.out, HCB.out, HX.out, HB.out⟩
              case measure => simp [intOf]; omega
        · rw [restOf_end (by omega)] at hall hcnt
          have HM := Lib.hid (hmap.cnt (cnt' := cntL (W.ss.flatMap (·.wr))) (fun key => by have h := hcnt key; rw [cntL_nil] at h; exact h))
          have HA := Lib.hid (show R = allL W from hall)
          have HO := Lib.hid hown
          have HB := Lib.hid bel
          clear hown hmap hrR hall hcnt hcb hbox bel
          go_wp2
          go_ret
          exact ⟨w.heap.size + 1, _, M, rfl, HO.out, by rw [← HA.out]; exact HM.out, by omega, by omega, HB.out⟩
end Go.Proofs.YtpbaobmegomfpabDoor

/-
  Walks of back.put.
-/
namespace Go.Proofs.YtpbaobmegomfpabDoor
open Go.RowKit Go.Maps Go.WideMaps
set_option linter.unusedVariables false
set_option linter.unusedSimpArgs false
set_option maxRecDepth 100000

/-- a store where there is room -/
theorem store_ok (g c pb po : Nat) (l : PL) (k : Int) (key val : ByteArray) (limit : Nat) (w : World) (ho : OwnL w g c l) (hr : risingB l = true) (hn : l.length ≤ 1000) (hs : Sz l)
    (hp : w.cell? ⟨pb, po, none⟩ = some (.slice (some ⟨g, 0, none⟩) l.length c)) (hpf : w.frozen? ⟨pb, po, none⟩ = false) (hne : pb ≠ g) (hk : key.size ≤ 140737488351232) (hv : val.size ≤ 140737488351232) (hf : fndL l key = true ∨ l.length < limit) :
    Calls Tryd.prog 44 #[.pointer (some ⟨pb, po, none⟩), .agg #[.int .i64 k, .string key, .string val], .int .i64 limit] w (StorePost w g pb po (insL l key val)) := by
  cases e : fndL l key
  · exact store_room g c pb po l k key val limit w ho hr hn hs hp hpf hne hk hv e (hf.resolve_left (by simp [e]))
  · exact store_found g c pb po l k key val limit w ho hr hn hs hp hpf hne hk hv e
/-- the value of a world in its box -/
theorem OwnD.wld {w : World} {X S gR cR : Nat} {G C : Nat → Nat → Nat} {W : Wd} (h : OwnD w X S gR cR G C W) (hz : SzW W) : Wld w w.heap.size (slc gR W.rows.length cR) (slc S W.ss.length W.ss.length) W := by
  refine ⟨h.rows.lst (by have := hz.rows.1; omega) hz.rows.sz, ⟨⟨_, _, rfl, Nat.le_refl _⟩, by have := hz.many; omega, fun hn => ⟨S, 0, W.ss.length, rfl, h.blk.lt, fun i hi => ?_⟩⟩⟩
  rw [Nat.zero_add]
  exact ⟨_, _, _, _, h.st i hi, h.cs i 0 hi (by omega), h.cs i 1 hi (by omega), h.cs i 2 hi (by omega), h.cs i 3 hi (by omega), h.list hz hi (j := 0) (by omega), h.list hz hi (j := 1) (by omega), h.list hz hi (j := 2) (by omega), h.list hz hi (j := 3) (by omega)⟩
/-- what is left behind a store into list j of session i -/
theorem OwnD.stored {w w' : World} {base X S gR cR : Nat} {G C : Nat → Nat → Nat} {W : Wd} (h : OwnD w X S gR cR G C W) (lo : LoD base X S gR G W.ss.length) {g' : Nat} (hlg : base ≤ g') (hz : SzW W) {i : Nat} (hi : i < W.ss.length) {j : Nat} (hj : j < 4) {l' : PL} {c' : Nat} {s' : Sess} (hl' : l'.length ≤ 1000) (hs' : Sz l')
    (ho : OwnL w' g' c' l') (hc : Chg w w' (G i j) S (i * 5 + (j + 1)) (.slice (some ⟨g', 0, none⟩) l'.length c')) (hst : s'.st = W.ss[i].st) (hli : ∀ k, k < 4 → s'.li k = if k = j then l' else W.ss[i].li k) : EndW w' base X S (W.put i s') := by
  have ne := h.neGS i j hi hj
  have cc : ∀ k, w'.cell? ⟨S, k, none⟩ = (w.setCell ⟨S, i * 5 + (j + 1), none⟩ (.slice (some ⟨g', 0, none⟩) l'.length c')).cell? ⟨S, k, none⟩ := fun k => World.cell?_of_block hc.here
  have hblk : RowTo w' S 46 (W.ss.length * 5) [] := (h.blk.hit (j := i * 5 + (j + 1)) _).same hc.here
  have cell : ∀ k, k < 4 → ∃ v, w'.cell? ⟨S, i * 5 + (k + 1), none⟩ = some v ∧ Lst w' w'.heap.size v (s'.li k) ∧ LoV base v := fun k hk => by
    rw [hli k hk]
    by_cases e : k = j
    · subst e
      rw [if_pos rfl]
      exact ⟨_, (cc _).trans (cell_put h.blk (by omega) _), ho.lst hl' hs', LoV.at hlg⟩
    · rw [if_neg e]
      refine ⟨_, (cc _).trans ((cell_off _ (by omega)).trans (h.cs i k hi hk)), ?_, lo.v hi hk⟩
      exact ((h.ls i k hi hk).same (hc.other _ (h.ls i k hi hk).row.lt (fun e' => e (h.inj i k i j hi hk hi hj e').2) (h.neGS i k hi hk))).lst (by have := (hz.li i k hi hk).1; omega) (hz.li i k hi hk).sz
  obtain ⟨v1, d1, m1, o1⟩ := cell 0 (by omega)
  obtain ⟨v2, d2, m2, o2⟩ := cell 1 (by omega)
  obtain ⟨v3, d3, m3, o3⟩ := cell 2 (by omega)
  obtain ⟨v4, d4, m4, o4⟩ := cell 3 (by omega)
  refine h.left lo (LoV.slc lo.r) ⟨o1, o2, o3, o4⟩ hz hi hc.size (h.box.same (hc.other X h.box.lt (Ne.symm (h.neGX i j hi hj)) h.neXS)) hblk ((h.rows.same (hc.other gR h.rows.row.lt (Ne.symm (h.neGR i j hi hj)) h.neRS)).lst (by have := hz.rows.1; omega) hz.rows.sz)
    (fun k q hk hq => (cc _).trans (cell_off _ (by omega))) (fun k q hk hne hq => hc.other _ (h.ls k q hk hq).row.lt (fun e' => hne (h.inj k q i j hk hq hi hj e').1) (h.neGS k q hk hq)) ⟨(cc _).trans ((cell_off _ (by omega)).trans (by rw [hst]; exact h.st i hi)), d1, d2, d3, d4, m1, m2, m3, m4⟩

theorem cell_set3' {w : World} {b R i : Nat} {u x y z : Value} (h : w.cell? ⟨b, i, none⟩ = some u) (hne : b ≠ R) :
    (((w.setCell ⟨R, 0, none⟩ x).setCell ⟨R, 1, none⟩ y).setCell ⟨R, 2, none⟩ z).cell? ⟨b, i, none⟩ = some u := by
  simp [go_sem, h]
/-- what is left behind a store into the rows -/
theorem OwnD.storedR {w w' : World} {base X S gR cR : Nat} {G C : Nat → Nat → Nat} {W : Wd} (h : OwnD w X S gR cR G C W) (lo : LoD base X S gR G W.ss.length) {g' : Nat} (hlg : base ≤ g') (hz : SzW W) {i : Nat} (hi : i < W.ss.length) {l' : PL} {c' : Nat} (hl' : l'.length ≤ 1000) (hs' : Sz l')
    (ho : OwnL w' g' c' l') (hc : Chg w w' gR X 0 (.slice (some ⟨g', 0, none⟩) l'.length c')) : EndW w' base X S ⟨l', W.ss⟩ := by
  have hS : w'.heap[S]? = w.heap[S]? := hc.other S h.blk.lt (Ne.symm h.neRS) (Ne.symm h.neXS)
  have cS : ∀ k, w'.cell? ⟨S, k, none⟩ = w.cell? ⟨S, k, none⟩ := fun k => World.cell?_of_block hS
  have hL : ∀ k j, k < W.ss.length → j < 4 → w'.heap[G k j]? = w.heap[G k j]? := fun k j hk hj => hc.other _ (h.ls k j hk hj).row.lt (h.neGR k j hk hj) (h.neGX k j hk hj)
  have ll : ∀ j, j < 4 → Lst w' w'.heap.size (slc (G i j) (W.ss[i].li j).length (C i j)) (W.ss[i].li j) := fun j hj => ((h.ls i j hi hj).same (hL i j hi hj)).lst (by have := (hz.li i j hi hj).1; omega) (hz.li i j hi hj).sz
  have hb := (h.box.put (j := 0) (by simp) (.slice (some ⟨g', 0, none⟩) l'.length c')).same hc.here
  have := h.left lo (LoV.at hlg) ⟨lo.v hi (j := 0) (by omega), lo.v hi (j := 1) (by omega), lo.v hi (j := 2) (by omega), lo.v hi (j := 3) (by omega)⟩ hz hi (s' := W.ss[i]) (rows' := l') hc.size hb (h.blk.same hS) (ho.lst hl' hs') (fun k j _ _ => cS _) (fun k j hk _ hj => hL k j hk hj)
    ⟨(cS _).trans (h.st i hi), (cS _).trans (h.cs i 0 hi (by omega)), (cS _).trans (h.cs i 1 hi (by omega)), (cS _).trans (h.cs i 2 hi (by omega)), (cS _).trans (h.cs i 3 hi (by omega)), ll 0 (by omega), ll 1 (by omega), ll 2 (by omega), ll 3 (by omega)⟩
  rwa [List.set_getElem_self] at this
theorem Chg.pull {w w8 w' : World} {g pb po : Nat} {v : Value} (hb : Below w.heap.size w w8) (hp : pb < w.heap.size) (c : Chg w8 w' g pb po v) : Chg w w' g pb po v :=
  ⟨c.os.trans hb.os, c.tape.trans hb.tape, c.output.trans hb.output, Nat.le_trans hb.size c.size, fun b hbl h1 h2 => (c.other b (by have := hb.size; omega) h1 h2).trans (hb.block b hbl), c.here.trans (setCell_block (p := ⟨pb, po, none⟩) (hb.block pb hp))⟩
theorem Chg.setN {w w' : World} {g pb po : Nat} {v : Value} (c : Chg w w' g pb po v) {p : Addr} (hp : w.heap.size ≤ p.block) (hpb : pb < w.heap.size) (u : Value) : Chg w (w'.setCell p u) g pb po v :=
  ⟨c.os, c.tape, c.output, by simpa [World.setCell] using c.size, fun b hb h1 h2 => (Below.heap_setCell _ _ _ _ (by omega)).trans (c.other b hb h1 h2), (Below.heap_setCell _ _ _ _ (by omega)).trans c.here⟩
theorem Chg.bel {w w' : World} {g pb po base : Nat} {v : Value} (c : Chg w w' g pb po v) (h1 : base ≤ g) (h2 : base ≤ pb) (hw : base ≤ w.heap.size) : Below base w w' :=
  ⟨c.os, c.tape, c.output, c.size, fun k hk => c.other k (by omega) (by omega) (by omega)⟩
end Go.Proofs.YtpbaobmegomfpabDoor

/-
  Walks of back.put that end in an Error.
-/
namespace Go.Proofs.YtpbaobmegomfpabDoor
open Go.RowKit Go.Maps Go.WideMaps
set_option linter.unusedVariables false
set_option linter.unusedSimpArgs false
set_option maxRecDepth 100000

set_option maxHeartbeats 4000000 in
theorem put_held (base X S gR cR : Nat) (G C : Nat → Nat → Nat) (W : Wd) (i : Nat) (key val : ByteArray) (w : World) (h : OwnD w X S gR cR G C W) (lo : LoD base X S gR G W.ss.length) (hw : WorldOk W) (hb : base ≤ w.heap.size) (hi : i < W.ss.length) (hkz : key.size ≤ 8) (hvz : val.size ≤ 60) (hh : heldB W.ss i key = true) :
    Calls Tryd.prog 45 #[.pointer (some ⟨X, 0, none⟩), .int .i64 i, .agg #[.int .i64 10, .string key, .string val]] w fun e w' => e = .returned (ansV 4 tHeld) ∧ Below w.heap.size w w' := by
  have hcn := (held_cnt hw hi key).symm
  rw [hh] at hcn
  rw [Bool.and_eq_true, decide_eq_true_eq, Bool.not_eq_true'] at hcn
  have HOWN := Lib.hid hcn.2
  have hpos := hcn.1
  clear hcn hh
  have hz := worldOk_sz hw
  have hXw := h.box.lt
  have hSw := h.blk.lt
  have hpr := pairsB_rising hw.rows
  have HCW := Lib.hid (fun (w9 : World) (h9 : Wld w9 w9.heap.size (slc gR W.rows.length cR) (slc S W.ss.length W.ss.length) W) => countWriters_any _ _ W w9 h9 hpr.2.1 hpr.1 hw.many (fun j hj => (pairsB_rising (hw.sess j hj).wr).2.1))
  have HWR := Lib.hid ((pairsB_rising (hw.sess i hi).wr).1)
  have b0 : Below w.heap.size w ((w.alloc (.cells #[.int .i64 10, .string key, .string val] 27)).alloc (.cells #[.int .i64 0, .string ⟨#[]⟩, .int .i64 0] 30)) := ((Below.refl _ _).alloc (Nat.le_refl _) _).alloc (by simp) _
  have h0 := h.kept b0
  have x0 := h.box.cell (j := 0) (by simp)
  have x1 := h.box.cell (j := 1) (by simp)
  simp only [List.getElem_cons_zero, List.getElem_cons_succ] at x0 x1
  unfold slc at x0 x1
  have X0 : RowTo ((w.alloc (.cells #[.int .i64 10, .string key, .string val] 27)).alloc (.cells #[.int .i64 0, .string ⟨#[]⟩, .int .i64 0] 30)) (w.heap.size + 1) 30 3 [.int .i64 0, .string ⟨#[]⟩, .int .i64 0] := by
    have := RowTo.whole (w.alloc (.cells #[.int .i64 10, .string key, .string val] 27)) #[.int .i64 0, .string ⟨#[]⟩, .int .i64 0] 30
    simpa using this
  have Y0 : RowTo ((w.alloc (.cells #[.int .i64 10, .string key, .string val] 27)).alloc (.cells #[.int .i64 0, .string ⟨#[]⟩, .int .i64 0] 30)) w.heap.size 27 3 [.int .i64 10, .string key, .string val] := (RowTo.whole w #[.int .i64 10, .string key, .string val] 27).alloc _
  have hzs : ((w.alloc (.cells #[.int .i64 10, .string key, .string val] 27)).alloc (.cells #[.int .i64 0, .string ⟨#[]⟩, .int .i64 0] 30)).heap.size = w.heap.size + 1 + 1 := by simp
  have hkey := klKey (s := key) (by omega)
  have hii : (i : Int) < (W.ss.length : Int) := by omega
  have H := Lib.hid h
  have H0 := Lib.hid h0
  have HZ := Lib.hid hz
  have HW := Lib.hid hw
  have B0 := Lib.hid b0
  have HX0 := Lib.hid X0
  have HY0 := Lib.hid Y0
  have HZS := Lib.hid hzs
  clear h h0 hz hw b0 X0 Y0 hzs hpr
  go_enter Tryd.func45, Tryd.ntmps45
  go_wp2_with fail
  refine (HCW.out _ (H0.out.wld HZ.out)).mono ?_
  rintro e w1 ⟨bm, n, M, rfl, hown, hmap, hn, hbm, hb1⟩
  have hs1 := hb1.size
  have H1 := Lib.hid (H0.out.kept hb1)
  have B1 := Lib.hid (bel_add' B0.out hb1 B0.out.size)
  have X1 := Lib.hid (HX0.out.below hb1 HX0.out.lt)
  have Y1 := HY0.out.below hb1 HY0.out.lt
  have q1 := Y1.cell (j := 1) (by simp)
  simp only [List.getElem_cons_zero, List.getElem_cons_succ] at q1
  have HY1 := Lib.hid Y1
  have HO := Lib.hid hown
  have HM := Lib.hid hmap
  have HAT := Lib.hid (hmap.at_ key)
  have hhas : Maps.has M (kl key) = fndL (allL W) key := hmap.has key
  have hsize : Maps.size M = (allL W).length := hmap.size
  rw [HZS.out] at hs1
  have hbm' : w.heap.size + 1 + 1 ≤ bm := by rw [HZS.out] at hbm; exact hbm
  clear hown hmap hb1 Y1 x0 x1 hbm
  have g1 : decide ((0 : Int) < (cntL (W.ss.flatMap (·.wr)) key : Int)) = true := decide_eq_true (by omega)
  have g2 : decide (0 < cntL (W.ss.flatMap (·.wr)) key) = true := decide_eq_true hpos
  go_wp2_with (first
    | (at_lookup; refine wpList_lookup_own_ok_int _ rfl _ _ 85 rfl 9 3 .i64 strLaw Tryd.underlying85 Tryd.underlying3 (zeroInt _) bm n _ rfl HO.out _ _ rfl hkey ?_; intro q hat hwq; obtain rfl : q = (cntL (W.ss.flatMap (·.wr)) key : Int) := (lit_inj (HAT.out.symm.trans hat)).symm; clear hat hwq)
    | go_in)
  have q4 : w1.cell? ⟨S, i * 5 + 4, none⟩ = some (.slice (some ⟨G i 3, 0, none⟩) W.ss[i].wr.length (C i 3)) := H1.out.cs i 3 hi (by omega)
  have hl4 := Lib.hid (show Lst w1 w1.heap.size (.slice (some ⟨G i 3, 0, none⟩) W.ss[i].wr.length (C i 3)) W.ss[i].wr from H1.out.list HZ.out hi (j := 3) (by omega))
  have hz0 : w.heap.size < w1.heap.size := by omega
  have hz1 : S < w1.heap.size := H1.out.blk.lt
  have kb := Below.refl w1.heap.size w1
  have dS := Lib.hid (show w1.drew.cell? ⟨S, i * 5 + 4, none⟩ = some (.slice (some ⟨G i 3, 0, none⟩) W.ss[i].wr.length (C i 3)) ∧ w1.drew.cell? ⟨w.heap.size, 1, none⟩ = some (.string key) from ⟨q4, q1⟩)
  go_region_held3 (fun wx => wx.cell? ⟨S, i * 5 + 4, none⟩ = some (.slice (some ⟨G i 3, 0, none⟩) W.ss[i].wr.length (C i 3)) ∧ wx.cell? ⟨w.heap.size, 1, none⟩ = some (.string key))
    (first
      | with_reducible exact ⟨q4, q1⟩
      | with_reducible exact dS.out
      | with_reducible exact ⟨(kb.cell (p := ⟨S, i * 5 + 4, none⟩) hz1).trans q4, (kb.cell (p := ⟨w.heap.size, 1, none⟩) hz0).trans q1⟩)
    (first
      | (
        go_at_call 62
        refine (place_any _ W.ss[i].wr key _ (by first | exact hl4.out | exact (hl4.out.step ((Below.refl _ _).drew)) | exact (hl4.out.step (below_drewN (Below.refl _ _) _))) HWR.out).mono ?_
        rw [HOWN.out]
        rintro e w8 ⟨rfl, hy⟩
        have kb : Below w1.heap.size w1 w8 := by first | exact kb.trans (hy.mono kb.size) | exact kb.trans ⟨hy.os, hy.tape, hy.output, hy.size, fun i hi => hy.block i (Nat.lt_of_lt_of_le hi kb.size)⟩))
  have hs8 := kb.size
  have H8 := Lib.hid (H1.out.kept kb)
  have B8 := Lib.hid (bel_add' B1.out kb B1.out.size)
  have X8 := Lib.hid (X1.out.below kb X1.out.lt)
  have Y8 := Lib.hid (HY1.out.below kb HY1.out.lt)
  have O8 := Lib.hid (HO.out.kept (grown_of_below kb none) (by simp))
  clear kb q1 q4 dS
  go_wp2_with fail
  refine (failure_any tHeld _).mono ?_
  rintro e w9 ⟨rfl, hb9⟩
  have X9 := X8.out.below hb9 X8.out.lt
  have r0 := X9.cell (j := 0) (by simp)
  have r1 := X9.cell (j := 1) (by simp)
  have r2 := X9.cell (j := 2) (by simp)
  have s0 := X9.frozen 0
  have s1 := X9.frozen 1
  have s2 := X9.frozen 2
  simp only [List.getElem_cons_zero, List.getElem_cons_succ] at r0 r1 r2
  have B9 := Lib.hid (bel_add' B8.out hb9 B8.out.size)
  clear X9 hb9
  unfold ansV
  go_wp2
  refine bodyPost_ret (v := .agg #[.int .i64 4, .string tHeld, .int .i64 0]) (by simp [results, Tryd.results45, go_sem, r0, r1, r2]) rfl ⟨rfl, ?_⟩
  exact ((B9.out.setCell (by simp) _).setCell (by simp) _).setCell (by simp) _
end Go.Proofs.YtpbaobmegomfpabDoor

/-
  Walks of back.put that end in the Error full.
-/
namespace Go.Proofs.YtpbaobmegomfpabDoor
open Go.RowKit Go.Maps Go.WideMaps
set_option linter.unusedVariables false
set_option linter.unusedSimpArgs false
set_option maxRecDepth 100000

set_option maxHeartbeats 4000000 in
theorem put_full_none (base X S gR cR : Nat) (G C : Nat → Nat → Nat) (W : Wd) (i : Nat) (key val : ByteArray) (w : World) (h : OwnD w X S gR cR G C W) (lo : LoD base X S gR G W.ss.length) (hw : WorldOk W) (hb : base ≤ w.heap.size) (hi : i < W.ss.length) (hkz : key.size ≤ 8) (hvz : val.size ≤ 60) (hown : fndL W.ss[i].wr key = false) (hc0 : cntL (W.ss.flatMap (·.wr)) key = 0) (hfn : fndL (allL W) key = false) (hfl : 100 ≤ (allL W).length) :
    Calls Tryd.prog 45 #[.pointer (some ⟨X, 0, none⟩), .int .i64 i, .agg #[.int .i64 10, .string key, .string val]] w fun e w' => e = .returned (ansV 4 tFull) ∧ Below w.heap.size w w' := by
  have HOWN := Lib.hid hown
  clear hown
  have hz := worldOk_sz hw
  have hXw := h.box.lt
  have hSw := h.blk.lt
  have hpr := pairsB_rising hw.rows
  have HCW := Lib.hid (fun (w9 : World) (h9 : Wld w9 w9.heap.size (slc gR W.rows.length cR) (slc S W.ss.length W.ss.length) W) => countWriters_any _ _ W w9 h9 hpr.2.1 hpr.1 hw.many (fun j hj => (pairsB_rising (hw.sess j hj).wr).2.1))
  have HWR := Lib.hid ((pairsB_rising (hw.sess i hi).wr).1)
  have b0 : Below w.heap.size w ((w.alloc (.cells #[.int .i64 10, .string key, .string val] 27)).alloc (.cells #[.int .i64 0, .string ⟨#[]⟩, .int .i64 0] 30)) := ((Below.refl _ _).alloc (Nat.le_refl _) _).alloc (by simp) _
  have h0 := h.kept b0
  have x0 := h.box.cell (j := 0) (by simp)
  have x1 := h.box.cell (j := 1) (by simp)
  simp only [List.getElem_cons_zero, List.getElem_cons_succ] at x0 x1
  unfold slc at x0 x1
  have X0 : RowTo ((w.alloc (.cells #[.int .i64 10, .string key, .string val] 27)).alloc (.cells #[.int .i64 0, .string ⟨#[]⟩, .int .i64 0] 30)) (w.heap.size + 1) 30 3 [.int .i64 0, .string ⟨#[]⟩, .int .i64 0] := by
    have := RowTo.whole (w.alloc (.cells #[.int .i64 10, .string key, .string val] 27)) #[.int .i64 0, .string ⟨#[]⟩, .int .i64 0] 30
    simpa using this
  have Y0 : RowTo ((w.alloc (.cells #[.int .i64 10, .string key, .string val] 27)).alloc (.cells #[.int .i64 0, .string ⟨#[]⟩, .int .i64 0] 30)) w.heap.size 27 3 [.int .i64 10, .string key, .string val] := (RowTo.whole w #[.int .i64 10, .string key, .string val] 27).alloc _
  have hzs : ((w.alloc (.cells #[.int .i64 10, .string key, .string val] 27)).alloc (.cells #[.int .i64 0, .string ⟨#[]⟩, .int .i64 0] 30)).heap.size = w.heap.size + 1 + 1 := by simp
  have hkey := klKey (s := key) (by omega)
  have hii : (i : Int) < (W.ss.length : Int) := by omega
  have H := Lib.hid h
  have H0 := Lib.hid h0
  have HZ := Lib.hid hz
  have HW := Lib.hid hw
  have B0 := Lib.hid b0
  have HX0 := Lib.hid X0
  have HY0 := Lib.hid Y0
  have HZS := Lib.hid hzs
  clear h h0 hz hw b0 X0 Y0 hzs hpr
  go_enter Tryd.func45, Tryd.ntmps45
  go_wp2_with fail
  refine (HCW.out _ (H0.out.wld HZ.out)).mono ?_
  rintro e w1 ⟨bm, n, M, rfl, hown, hmap, hn, hbm, hb1⟩
  have hs1 := hb1.size
  have H1 := Lib.hid (H0.out.kept hb1)
  have B1 := Lib.hid (bel_add' B0.out hb1 B0.out.size)
  have X1 := Lib.hid (HX0.out.below hb1 HX0.out.lt)
  have Y1 := HY0.out.below hb1 HY0.out.lt
  have q1 := Y1.cell (j := 1) (by simp)
  simp only [List.getElem_cons_zero, List.getElem_cons_succ] at q1
  have HY1 := Lib.hid Y1
  have HO := Lib.hid hown
  have HM := Lib.hid hmap
  have HAT := Lib.hid (hmap.at_ key)
  have hhas : Maps.has M (kl key) = fndL (allL W) key := hmap.has key
  have hsize : Maps.size M = (allL W).length := hmap.size
  rw [HZS.out] at hs1
  have hbm' : w.heap.size + 1 + 1 ≤ bm := by rw [HZS.out] at hbm; exact hbm
  clear hown hmap hb1 Y1 x0 x1 hbm
  have g1 : decide ((0 : Int) < (cntL (W.ss.flatMap (·.wr)) key : Int)) = false := decide_eq_false (by omega)
  have g2 : decide (0 < cntL (W.ss.flatMap (·.wr)) key) = false := decide_eq_false (by omega)
  rw [hfn] at hhas
  have g3 : decide ((100 : Int) ≤ ((allL W).length : Int)) = true := decide_eq_true (by omega)
  have g4 : decide (100 ≤ (allL W).length) = true := decide_eq_true hfl
  go_wp2_with (first
    | (at_lookup; refine wpList_lookup_own_ok_int _ rfl _ _ 85 rfl 9 3 .i64 strLaw Tryd.underlying85 Tryd.underlying3 (zeroInt _) bm n _ rfl HO.out _ _ rfl hkey ?_; intro q hat hwq; obtain rfl : q = (cntL (W.ss.flatMap (·.wr)) key : Int) := (lit_inj (HAT.out.symm.trans hat)).symm; clear hat hwq)
    | go_in)
  have q4 : w1.cell? ⟨S, i * 5 + 4, none⟩ = some (.slice (some ⟨G i 3, 0, none⟩) W.ss[i].wr.length (C i 3)) := H1.out.cs i 3 hi (by omega)
  have hl4 := Lib.hid (show Lst w1 w1.heap.size (.slice (some ⟨G i 3, 0, none⟩) W.ss[i].wr.length (C i 3)) W.ss[i].wr from H1.out.list HZ.out hi (j := 3) (by omega))
  have hz0 : w.heap.size < w1.heap.size := by omega
  have hz1 : S < w1.heap.size := H1.out.blk.lt
  have kb := Below.refl w1.heap.size w1
  have dS := Lib.hid (show w1.drew.cell? ⟨S, i * 5 + 4, none⟩ = some (.slice (some ⟨G i 3, 0, none⟩) W.ss[i].wr.length (C i 3)) ∧ w1.drew.cell? ⟨w.heap.size, 1, none⟩ = some (.string key) from ⟨q4, q1⟩)
  go_region_held3 (fun wx => wx.cell? ⟨S, i * 5 + 4, none⟩ = some (.slice (some ⟨G i 3, 0, none⟩) W.ss[i].wr.length (C i 3)) ∧ wx.cell? ⟨w.heap.size, 1, none⟩ = some (.string key))
    (first
      | with_reducible exact ⟨q4, q1⟩
      | with_reducible exact dS.out
      | with_reducible exact ⟨(kb.cell (p := ⟨S, i * 5 + 4, none⟩) hz1).trans q4, (kb.cell (p := ⟨w.heap.size, 1, none⟩) hz0).trans q1⟩)
    (first
      | (
        go_at_call 62
        refine (place_any _ W.ss[i].wr key _ (by first | exact hl4.out | exact (hl4.out.step ((Below.refl _ _).drew)) | exact (hl4.out.step (below_drewN (Below.refl _ _) _))) HWR.out).mono ?_
        rw [HOWN.out]
        rintro e w8 ⟨rfl, hy⟩
        have kb : Below w1.heap.size w1 w8 := by first | exact kb.trans (hy.mono kb.size) | exact kb.trans ⟨hy.os, hy.tape, hy.output, hy.size, fun i hi => hy.block i (Nat.lt_of_lt_of_le hi kb.size)⟩))
  have hs8 := kb.size
  have H8 := Lib.hid (H1.out.kept kb)
  have B8 := Lib.hid (bel_add' B1.out kb B1.out.size)
  have X8 := Lib.hid (X1.out.below kb X1.out.lt)
  have Y8 := Lib.hid (HY1.out.below kb HY1.out.lt)
  have O8 := Lib.hid (HO.out.kept (grown_of_below kb none) (by simp))
  clear kb q1 q4 dS
  have hlen := O8.out.len (t := 85) (e := 3) Tryd.underlying85
  go_wp2_with fail
  clear hlen
  refine (failure_any tFull _).mono ?_
  rintro e w9 ⟨rfl, hb9⟩
  have X9 := X8.out.below hb9 X8.out.lt
  have r0 := X9.cell (j := 0) (by simp)
  have r1 := X9.cell (j := 1) (by simp)
  have r2 := X9.cell (j := 2) (by simp)
  have s0 := X9.frozen 0
  have s1 := X9.frozen 1
  have s2 := X9.frozen 2
  simp only [List.getElem_cons_zero, List.getElem_cons_succ] at r0 r1 r2
  have B9 := Lib.hid (bel_add' B8.out hb9 B8.out.size)
  clear X9 hb9
  unfold ansV
  go_wp2
  refine bodyPost_ret (v := .agg #[.int .i64 4, .string tFull, .int .i64 0]) (by simp [results, Tryd.results45, go_sem, r0, r1, r2]) rfl ⟨rfl, ?_⟩
  exact ((B9.out.setCell (by simp) _).setCell (by simp) _).setCell (by simp) _

end Go.Proofs.YtpbaobmegomfpabDoor

/-
  Walks of back.put that store: into the Writes.
-/
namespace Go.Proofs.YtpbaobmegomfpabDoor
open Go.RowKit Go.Maps Go.WideMaps
set_option linter.unusedVariables false
set_option linter.unusedSimpArgs false
set_option maxRecDepth 100000

set_option maxHeartbeats 4000000 in
theorem put_wr_own (base X S gR cR : Nat) (G C : Nat → Nat → Nat) (W : Wd) (i : Nat) (key val : ByteArray) (w : World) (h : OwnD w X S gR cR G C W) (lo : LoD base X S gR G W.ss.length) (hw : WorldOk W) (hb : base ≤ w.heap.size) (hi : i < W.ss.length) (hkz : key.size ≤ 8) (hvz : val.size ≤ 60) (hown : fndL W.ss[i].wr key = true) (hfn : fndL (allL W) key = true) (hst : W.ss[i].st = 1) :
    Calls Tryd.prog 45 #[.pointer (some ⟨X, 0, none⟩), .int .i64 i, .agg #[.int .i64 10, .string key, .string val]] w (DonePost w base X S gR G W.ss.length (W.put i { W.ss[i] with wr := insL W.ss[i].wr key val })) := by
  have HOWN := Lib.hid hown
  have HROOM := Lib.hid (room_wr hw hi (key := key) (fun hh => by rw [hfn] at hh; cases hh.1))
  have HPOS := Lib.hid (show 0 < cntL (W.ss.flatMap (·.wr)) key by
    have h1 := (some_cnt (key := key) (pairsB_rising (hw.sess i hi).wr).1).2 hown
    have h2 := cnt_one (key := key) hi
    omega)
  have HRR := Lib.hid ((pairsB_rising hw.rows).1)
  clear hown
  have hz := worldOk_sz hw
  have hXw := h.box.lt
  have hSw := h.blk.lt
  have hpr := pairsB_rising hw.rows
  have HCW := Lib.hid (fun (w9 : World) (h9 : Wld w9 w9.heap.size (slc gR W.rows.length cR) (slc S W.ss.length W.ss.length) W) => countWriters_any _ _ W w9 h9 hpr.2.1 hpr.1 hw.many (fun j hj => (pairsB_rising (hw.sess j hj).wr).2.1))
  have HWR := Lib.hid ((pairsB_rising (hw.sess i hi).wr).1)
  have b0 : Below w.heap.size w ((w.alloc (.cells #[.int .i64 10, .string key, .string val] 27)).alloc (.cells #[.int .i64 0, .string ⟨#[]⟩, .int .i64 0] 30)) := ((Below.refl _ _).alloc (Nat.le_refl _) _).alloc (by simp) _
  have h0 := h.kept b0
  have x0 := h.box.cell (j := 0) (by simp)
  have x1 := h.box.cell (j := 1) (by simp)
  simp only [List.getElem_cons_zero, List.getElem_cons_succ] at x0 x1
  unfold slc at x0 x1
  have X0 : RowTo ((w.alloc (.cells #[.int .i64 10, .string key, .string val] 27)).alloc (.cells #[.int .i64 0, .string ⟨#[]⟩, .int .i64 0] 30)) (w.heap.size + 1) 30 3 [.int .i64 0, .string ⟨#[]⟩, .int .i64 0] := by
    have := RowTo.whole (w.alloc (.cells #[.int .i64 10, .string key, .string val] 27)) #[.int .i64 0, .string ⟨#[]⟩, .int .i64 0] 30
    simpa using this
  have Y0 : RowTo ((w.alloc (.cells #[.int .i64 10, .string key, .string val] 27)).alloc (.cells #[.int .i64 0, .string ⟨#[]⟩, .int .i64 0] 30)) w.heap.size 27 3 [.int .i64 10, .string key, .string val] := (RowTo.whole w #[.int .i64 10, .string key, .string val] 27).alloc _
  have hzs : ((w.alloc (.cells #[.int .i64 10, .string key, .string val] 27)).alloc (.cells #[.int .i64 0, .string ⟨#[]⟩, .int .i64 0] 30)).heap.size = w.heap.size + 1 + 1 := by simp
  have hkey := klKey (s := key) (by omega)
  have hii : (i : Int) < (W.ss.length : Int) := by omega
  have H := Lib.hid h
  have H0 := Lib.hid h0
  have HZ := Lib.hid hz
  have HW := Lib.hid hw
  have B0 := Lib.hid b0
  have HX0 := Lib.hid X0
  have HY0 := Lib.hid Y0
  have HZS := Lib.hid hzs
  clear h h0 hz hw b0 X0 Y0 hzs hpr
  go_enter Tryd.func45, Tryd.ntmps45
  go_wp2_with fail
  refine (HCW.out _ (H0.out.wld HZ.out)).mono ?_
  rintro e w1 ⟨bm, n, M, rfl, hown, hmap, hn, hbm, hb1⟩
  have hs1 := hb1.size
  have H1 := Lib.hid (H0.out.kept hb1)
  have B1 := Lib.hid (bel_add' B0.out hb1 B0.out.size)
  have X1 := Lib.hid (HX0.out.below hb1 HX0.out.lt)
  have Y1 := HY0.out.below hb1 HY0.out.lt
  have q1 := Y1.cell (j := 1) (by simp)
  simp only [List.getElem_cons_zero, List.getElem_cons_succ] at q1
  have HY1 := Lib.hid Y1
  have HO := Lib.hid hown
  have HM := Lib.hid hmap
  have HAT := Lib.hid (hmap.at_ key)
  have hhas : Maps.has M (kl key) = fndL (allL W) key := hmap.has key
  have hsize : Maps.size M = (allL W).length := hmap.size
  rw [HZS.out] at hs1
  have hbm' : w.heap.size + 1 + 1 ≤ bm := by rw [HZS.out] at hbm; exact hbm
  clear hown hmap hb1 Y1 x0 x1 hbm
  have g1 : decide ((0 : Int) < (cntL (W.ss.flatMap (·.wr)) key : Int)) = true := decide_eq_true (by have := HPOS.out; omega)
  have g2 : decide (0 < cntL (W.ss.flatMap (·.wr)) key) = true := decide_eq_true HPOS.out
  rw [hfn] at hhas
  go_wp2_with (first
    | (at_lookup; refine wpList_lookup_own_ok_int _ rfl _ _ 85 rfl 9 3 .i64 strLaw Tryd.underlying85 Tryd.underlying3 (zeroInt _) bm n _ rfl HO.out _ _ rfl hkey ?_; intro q hat hwq; obtain rfl : q = (cntL (W.ss.flatMap (·.wr)) key : Int) := (lit_inj (HAT.out.symm.trans hat)).symm; clear hat hwq)
    | go_in)
  have q4 : w1.cell? ⟨S, i * 5 + 4, none⟩ = some (.slice (some ⟨G i 3, 0, none⟩) W.ss[i].wr.length (C i 3)) := H1.out.cs i 3 hi (by omega)
  have hl4 := Lib.hid (show Lst w1 w1.heap.size (.slice (some ⟨G i 3, 0, none⟩) W.ss[i].wr.length (C i 3)) W.ss[i].wr from H1.out.list HZ.out hi (j := 3) (by omega))
  have hz0 : w.heap.size < w1.heap.size := by omega
  have hz1 : S < w1.heap.size := H1.out.blk.lt
  have kb := Below.refl w1.heap.size w1
  have dS := Lib.hid (show w1.drew.cell? ⟨S, i * 5 + 4, none⟩ = some (.slice (some ⟨G i 3, 0, none⟩) W.ss[i].wr.length (C i 3)) ∧ w1.drew.cell? ⟨w.heap.size, 1, none⟩ = some (.string key) from ⟨q4, q1⟩)
  go_region_held3 (fun wx => wx.cell? ⟨S, i * 5 + 4, none⟩ = some (.slice (some ⟨G i 3, 0, none⟩) W.ss[i].wr.length (C i 3)) ∧ wx.cell? ⟨w.heap.size, 1, none⟩ = some (.string key))
    (first
      | with_reducible exact ⟨q4, q1⟩
      | with_reducible exact dS.out
      | with_reducible exact ⟨(kb.cell (p := ⟨S, i * 5 + 4, none⟩) hz1).trans q4, (kb.cell (p := ⟨w.heap.size, 1, none⟩) hz0).trans q1⟩)
    (first
      | (
        go_at_call 62
        refine (place_any _ W.ss[i].wr key _ (by first | exact hl4.out | exact (hl4.out.step ((Below.refl _ _).drew)) | exact (hl4.out.step (below_drewN (Below.refl _ _) _))) HWR.out).mono ?_
        rw [HOWN.out]
        rintro e w8 ⟨rfl, hy⟩
        have kb : Below w1.heap.size w1 w8 := by first | exact kb.trans (hy.mono kb.size) | exact kb.trans ⟨hy.os, hy.tape, hy.output, hy.size, fun i hi => hy.block i (Nat.lt_of_lt_of_le hi kb.size)⟩))
  have hs8 := kb.size
  have H8 := Lib.hid (H1.out.kept kb)
  have B8 := Lib.hid (bel_add' B1.out kb B1.out.size)
  have X8 := Lib.hid (X1.out.below kb X1.out.lt)
  have Y8 := Lib.hid (HY1.out.below kb HY1.out.lt)
  have O8 := Lib.hid (HO.out.kept (grown_of_below kb none) (by simp))
  clear kb q1 q4 dS
  have c0 := H8.out.st i hi
  rw [hst] at c0
  have pc : w8.cell? ⟨S, i * 5 + 4, none⟩ = some (.slice (some ⟨G i 3, 0, none⟩) W.ss[i].wr.length (C i 3)) := H8.out.cs i 3 hi (by omega)
  have pf := H8.out.blk.frozen (i * 5 + 4)
  have hneg : S ≠ G i 3 := Ne.symm (H8.out.neGS i 3 hi (by omega))
  have hgw : G i 3 < w.heap.size := (H.out.ls i 3 hi (by omega)).row.lt
  have hpw : S < w.heap.size := hSw
  have HSTORE := Lib.hid (fun (w9 : World) (ho9 : OwnL w9 (G i 3) (C i 3) W.ss[i].wr) (hp9 : w9.cell? ⟨S, i * 5 + 4, none⟩ = some (.slice (some ⟨G i 3, 0, none⟩) W.ss[i].wr.length (C i 3))) (hf9 : w9.frozen? ⟨S, i * 5 + 4, none⟩ = false) => store_ok (G i 3) (C i 3) S (i * 5 + 4) W.ss[i].wr 10 key val 100 w9 ho9 HWR.out (by have := (HZ.out.li i 3 hi (by omega)).1; have e : (W.ss[i].li 3).length = W.ss[i].wr.length := rfl; omega) ((HZ.out.li i 3 hi (by omega)).sz) hp9 hf9 hneg (by omega) (by omega) HROOM.out)
  have O9 := Lib.hid (show OwnL w8 (G i 3) (C i 3) W.ss[i].wr from H8.out.ls i 3 hi (by omega))
  have PC := Lib.hid (And.intro pc pf)
  have hw8 : w.heap.size < w8.heap.size := by omega
  have hR8 : w.heap.size + 1 < w8.heap.size := by omega
  have y0 := Y8.out.cell (j := 0) (by simp)
  have y1 := Y8.out.cell (j := 1) (by simp)
  have y2 := Y8.out.cell (j := 2) (by simp)
  simp only [List.getElem_cons_zero, List.getElem_cons_succ] at y0 y1 y2
  clear pc pf
  go_wp2
  have dS := Lib.hid (show w8.drew.cell? ⟨w.heap.size, 0, none⟩ = some (.int .i64 10) ∧ w8.drew.cell? ⟨w.heap.size, 1, none⟩ = some (.string key) ∧ w8.drew.cell? ⟨w.heap.size, 2, none⟩ = some (.string val) from ⟨y0, y1, y2⟩)
  have hne1 : w.heap.size ≠ G i 3 := by omega
  have hne2 : w.heap.size ≠ S := by omega
  have hne3 : w.heap.size + 1 ≠ G i 3 := by omega
  have hne4 : w.heap.size + 1 ≠ S := by omega
  go_region_held3 (fun wx => wx.cell? ⟨w.heap.size, 0, none⟩ = some (.int .i64 10) ∧ wx.cell? ⟨w.heap.size, 1, none⟩ = some (.string key) ∧ wx.cell? ⟨w.heap.size, 2, none⟩ = some (.string val))
    (first
      | with_reducible exact ⟨y0, y1, y2⟩
      | with_reducible exact dS.out
      | with_reducible exact ⟨cell_set3' z0 (by omega), cell_set3' z1 (by omega), cell_set3' z2 (by omega)⟩
      | with_reducible exact ⟨z0, z1, z2⟩)
    (first
      | (
        go_at_call 44
        refine (HSTORE.out _ (by first | exact O9.out | exact O9.out.same rfl) (by first | exact PC.out.1 | assumption) (by first | exact PC.out.2 | assumption)).mono ?_
        rintro e wB ⟨g', c', rfl, ho', hl', hc⟩
        have hcB : Chg w8 wB (G i 3) S (i * 5 + 4) (.slice (some ⟨g', 0, none⟩) (insL W.ss[i].wr key val).length c') := ⟨hc.os, hc.tape, hc.output, hc.size, hc.other, hc.here⟩
        have hlB : g' = G i 3 ∨ w8.heap.size ≤ g' := hl'
        have z0 := (World.cell?_of_block (a := ⟨w.heap.size, 0, none⟩) (hcB.other _ hw8 hne1 hne2)).trans y0
        have z1 := (World.cell?_of_block (a := ⟨w.heap.size, 1, none⟩) (hcB.other _ hw8 hne1 hne2)).trans y1
        have z2 := (World.cell?_of_block (a := ⟨w.heap.size, 2, none⟩) (hcB.other _ hw8 hne1 hne2)).trans y2
        have RB := X8.out.same (hcB.other _ hR8 hne3 hne4)
        have r0 := RB.cell (j := 0) (by simp)
        have r1 := RB.cell (j := 1) (by simp)
        have r2 := RB.cell (j := 2) (by simp)
        have s0 := RB.frozen 0
        have s1 := RB.frozen 1
        have s2 := RB.frozen 2
        simp only [List.getElem_cons_zero, List.getElem_cons_succ] at r0 r1 r2
        unfold ansV))
  have HZ8 := Lib.hid (And.intro ho' (And.intro hlB hcB))
  clear ho' hlB hcB hl' hc RB z0 z1 z2
  go_wp2
  refine bodyPost_ret (v := .agg #[.int .i64 1, .string ⟨#[]⟩, .int .i64 0]) (by simp [results, Tryd.results45, go_sem, r0, r1, r2]) rfl ?_
  obtain ⟨a1, a2, a3⟩ := HZ8.out
  have ch := (((a3.pull B8.out hpw).setN (p := ⟨w.heap.size + 1, 0, none⟩) (by simp) hpw (.int .i64 1)).setN (p := ⟨w.heap.size + 1, 1, none⟩) (by simp) hpw (.string ⟨#[]⟩)).setN (p := ⟨w.heap.size + 1, 2, none⟩) (by simp) hpw (.int .i64 0)
  have hgR : w.heap.size + 1 ≠ g' := by rcases a2 with hh | hh <;> omega
  have oF : OwnL (((wB.setCell ⟨w.heap.size + 1, 0, none⟩ (.int .i64 1)).setCell ⟨w.heap.size + 1, 1, none⟩ (.string ⟨#[]⟩)).setCell ⟨w.heap.size + 1, 2, none⟩ (.int .i64 0)) g' c' (insL W.ss[i].wr key val) := ⟨((a1.row.other hgR _).other hgR _).other hgR _, a1.len, a1.most⟩
  have hlg : base ≤ g' := by have q1 := lo.g i 3 hi (by omega); rcases a2 with hh | hh <;> omega
  refine ⟨rfl, H.out.stored lo hlg HZ.out hi (j := 3) (by omega) (by have h1 := plusL_len W.ss[i].wr key val; rw [plus_ins HWR.out] at h1; have := (HZ.out.li i 3 hi (by omega)).1; have e : (W.ss[i].li 3).length = W.ss[i].wr.length := rfl; show (insL W.ss[i].wr key val).length ≤ 1000; omega) (((HZ.out.li i 3 hi (by omega)).sz).ins (by omega) (by omega)) oF ch rfl (fun k hk => ?_), ch.bel (lo.g i 3 hi (by omega)) lo.s hb, fun b hb _ h2 _ h4 => ch.other b hb (h4 i 3 hi (by omega)) h2⟩
  rcases j4 hk with rfl | rfl | rfl | rfl <;> rfl

end Go.Proofs.YtpbaobmegomfpabDoor

/-
  Walks of back.put that store: into the Writes, a row that no session writes.
-/
namespace Go.Proofs.YtpbaobmegomfpabDoor
open Go.RowKit Go.Maps Go.WideMaps
set_option linter.unusedVariables false
set_option linter.unusedSimpArgs false
set_option maxRecDepth 100000

set_option maxHeartbeats 4000000 in
theorem put_wr_is (base X S gR cR : Nat) (G C : Nat → Nat → Nat) (W : Wd) (i : Nat) (key val : ByteArray) (w : World) (h : OwnD w X S gR cR G C W) (lo : LoD base X S gR G W.ss.length) (hw : WorldOk W) (hb : base ≤ w.heap.size) (hi : i < W.ss.length) (hkz : key.size ≤ 8) (hvz : val.size ≤ 60) (hown : fndL W.ss[i].wr key = false) (hc0 : cntL (W.ss.flatMap (·.wr)) key = 0) (hfn : fndL (allL W) key = true) (hst : W.ss[i].st = 1) :
    Calls Tryd.prog 45 #[.pointer (some ⟨X, 0, none⟩), .int .i64 i, .agg #[.int .i64 10, .string key, .string val]] w (DonePost w base X S gR G W.ss.length (W.put i { W.ss[i] with wr := insL W.ss[i].wr key val })) := by
  have HOWN := Lib.hid hown
  have HROOM := Lib.hid (room_wr hw hi (key := key) (fun hh => by rw [hfn] at hh; cases hh.1))
  have HRR := Lib.hid ((pairsB_rising hw.rows).1)
  clear hown
  have hz := worldOk_sz hw
  have hXw := h.box.lt
  have hSw := h.blk.lt
  have hpr := pairsB_rising hw.rows
  have HCW := Lib.hid (fun (w9 : World) (h9 : Wld w9 w9.heap.size (slc gR W.rows.length cR) (slc S W.ss.length W.ss.length) W) => countWriters_any _ _ W w9 h9 hpr.2.1 hpr.1 hw.many (fun j hj => (pairsB_rising (hw.sess j hj).wr).2.1))
  have HWR := Lib.hid ((pairsB_rising (hw.sess i hi).wr).1)
  have b0 : Below w.heap.size w ((w.alloc (.cells #[.int .i64 10, .string key, .string val] 27)).alloc (.cells #[.int .i64 0, .string ⟨#[]⟩, .int .i64 0] 30)) := ((Below.refl _ _).alloc (Nat.le_refl _) _).alloc (by simp) _
  have h0 := h.kept b0
  have x0 := h.box.cell (j := 0) (by simp)
  have x1 := h.box.cell (j := 1) (by simp)
  simp only [List.getElem_cons_zero, List.getElem_cons_succ] at x0 x1
  unfold slc at x0 x1
  have X0 : RowTo ((w.alloc (.cells #[.int .i64 10, .string key, .string val] 27)).alloc (.cells #[.int .i64 0, .string ⟨#[]⟩, .int .i64 0] 30)) (w.heap.size + 1) 30 3 [.int .i64 0, .string ⟨#[]⟩, .int .i64 0] := by
    have := RowTo.whole (w.alloc (.cells #[.int .i64 10, .string key, .string val] 27)) #[.int .i64 0, .string ⟨#[]⟩, .int .i64 0] 30
    simpa using this
  have Y0 : RowTo ((w.alloc (.cells #[.int .i64 10, .string key, .string val] 27)).alloc (.cells #[.int .i64 0, .string ⟨#[]⟩, .int .i64 0] 30)) w.heap.size 27 3 [.int .i64 10, .string key, .string val] := (RowTo.whole w #[.int .i64 10, .string key, .string val] 27).alloc _
  have hzs : ((w.alloc (.cells #[.int .i64 10, .string key, .string val] 27)).alloc (.cells #[.int .i64 0, .string ⟨#[]⟩, .int .i64 0] 30)).heap.size = w.heap.size + 1 + 1 := by simp
  have hkey := klKey (s := key) (by omega)
  have hii : (i : Int) < (W.ss.length : Int) := by omega
  have H := Lib.hid h
  have H0 := Lib.hid h0
  have HZ := Lib.hid hz
  have HW := Lib.hid hw
  have B0 := Lib.hid b0
  have HX0 := Lib.hid X0
  have HY0 := Lib.hid Y0
  have HZS := Lib.hid hzs
  clear h h0 hz hw b0 X0 Y0 hzs hpr
  go_enter Tryd.func45, Tryd.ntmps45
  go_wp2_with fail
  refine (HCW.out _ (H0.out.wld HZ.out)).mono ?_
  rintro e w1 ⟨bm, n, M, rfl, hown, hmap, hn, hbm, hb1⟩
  have hs1 := hb1.size
  have H1 := Lib.hid (H0.out.kept hb1)
  have B1 := Lib.hid (bel_add' B0.out hb1 B0.out.size)
  have X1 := Lib.hid (HX0.out.below hb1 HX0.out.lt)
  have Y1 := HY0.out.below hb1 HY0.out.lt
  have q1 := Y1.cell (j := 1) (by simp)
  simp only [List.getElem_cons_zero, List.getElem_cons_succ] at q1
  have HY1 := Lib.hid Y1
  have HO := Lib.hid hown
  have HM := Lib.hid hmap
  have HAT := Lib.hid (hmap.at_ key)
  have hhas : Maps.has M (kl key) = fndL (allL W) key := hmap.has key
  have hsize : Maps.size M = (allL W).length := hmap.size
  rw [HZS.out] at hs1
  have hbm' : w.heap.size + 1 + 1 ≤ bm := by rw [HZS.out] at hbm; exact hbm
  clear hown hmap hb1 Y1 x0 x1 hbm
  have g1 : decide ((0 : Int) < (cntL (W.ss.flatMap (·.wr)) key : Int)) = false := decide_eq_false (by omega)
  have g2 : decide (0 < cntL (W.ss.flatMap (·.wr)) key) = false := decide_eq_false (by omega)
  rw [hfn] at hhas
  go_wp2_with (first
    | (at_lookup; refine wpList_lookup_own_ok_int _ rfl _ _ 85 rfl 9 3 .i64 strLaw Tryd.underlying85 Tryd.underlying3 (zeroInt _) bm n _ rfl HO.out _ _ rfl hkey ?_; intro q hat hwq; obtain rfl : q = (cntL (W.ss.flatMap (·.wr)) key : Int) := (lit_inj (HAT.out.symm.trans hat)).symm; clear hat hwq)
    | go_in)
  have q4 : w1.cell? ⟨S, i * 5 + 4, none⟩ = some (.slice (some ⟨G i 3, 0, none⟩) W.ss[i].wr.length (C i 3)) := H1.out.cs i 3 hi (by omega)
  have hl4 := Lib.hid (show Lst w1 w1.heap.size (.slice (some ⟨G i 3, 0, none⟩) W.ss[i].wr.length (C i 3)) W.ss[i].wr from H1.out.list HZ.out hi (j := 3) (by omega))
  have hz0 : w.heap.size < w1.heap.size := by omega
  have hz1 : S < w1.heap.size := H1.out.blk.lt
  have kb := Below.refl w1.heap.size w1
  have dS := Lib.hid (show w1.drew.cell? ⟨S, i * 5 + 4, none⟩ = some (.slice (some ⟨G i 3, 0, none⟩) W.ss[i].wr.length (C i 3)) ∧ w1.drew.cell? ⟨w.heap.size, 1, none⟩ = some (.string key) from ⟨q4, q1⟩)
  go_region_held3 (fun wx => wx.cell? ⟨S, i * 5 + 4, none⟩ = some (.slice (some ⟨G i 3, 0, none⟩) W.ss[i].wr.length (C i 3)) ∧ wx.cell? ⟨w.heap.size, 1, none⟩ = some (.string key))
    (first
      | with_reducible exact ⟨q4, q1⟩
      | with_reducible exact dS.out
      | with_reducible exact ⟨(kb.cell (p := ⟨S, i * 5 + 4, none⟩) hz1).trans q4, (kb.cell (p := ⟨w.heap.size, 1, none⟩) hz0).trans q1⟩)
    (first
      | (
        go_at_call 62
        refine (place_any _ W.ss[i].wr key _ (by first | exact hl4.out | exact (hl4.out.step ((Below.refl _ _).drew)) | exact (hl4.out.step (below_drewN (Below.refl _ _) _))) HWR.out).mono ?_
        rw [HOWN.out]
        rintro e w8 ⟨rfl, hy⟩
        have kb : Below w1.heap.size w1 w8 := by first | exact kb.trans (hy.mono kb.size) | exact kb.trans ⟨hy.os, hy.tape, hy.output, hy.size, fun i hi => hy.block i (Nat.lt_of_lt_of_le hi kb.size)⟩))
  have hs8 := kb.size
  have H8 := Lib.hid (H1.out.kept kb)
  have B8 := Lib.hid (bel_add' B1.out kb B1.out.size)
  have X8 := Lib.hid (X1.out.below kb X1.out.lt)
  have Y8 := Lib.hid (HY1.out.below kb HY1.out.lt)
  have O8 := Lib.hid (HO.out.kept (grown_of_below kb none) (by simp))
  clear kb q1 q4 dS
  have c0 := H8.out.st i hi
  rw [hst] at c0
  have pc : w8.cell? ⟨S, i * 5 + 4, none⟩ = some (.slice (some ⟨G i 3, 0, none⟩) W.ss[i].wr.length (C i 3)) := H8.out.cs i 3 hi (by omega)
  have pf := H8.out.blk.frozen (i * 5 + 4)
  have hneg : S ≠ G i 3 := Ne.symm (H8.out.neGS i 3 hi (by omega))
  have hgw : G i 3 < w.heap.size := (H.out.ls i 3 hi (by omega)).row.lt
  have hpw : S < w.heap.size := hSw
  have HSTORE := Lib.hid (fun (w9 : World) (ho9 : OwnL w9 (G i 3) (C i 3) W.ss[i].wr) (hp9 : w9.cell? ⟨S, i * 5 + 4, none⟩ = some (.slice (some ⟨G i 3, 0, none⟩) W.ss[i].wr.length (C i 3))) (hf9 : w9.frozen? ⟨S, i * 5 + 4, none⟩ = false) => store_ok (G i 3) (C i 3) S (i * 5 + 4) W.ss[i].wr 10 key val 100 w9 ho9 HWR.out (by have := (HZ.out.li i 3 hi (by omega)).1; have e : (W.ss[i].li 3).length = W.ss[i].wr.length := rfl; omega) ((HZ.out.li i 3 hi (by omega)).sz) hp9 hf9 hneg (by omega) (by omega) HROOM.out)
  have O9 := Lib.hid (show OwnL w8 (G i 3) (C i 3) W.ss[i].wr from H8.out.ls i 3 hi (by omega))
  have PC := Lib.hid (And.intro pc pf)
  have hw8 : w.heap.size < w8.heap.size := by omega
  have hR8 : w.heap.size + 1 < w8.heap.size := by omega
  have y0 := Y8.out.cell (j := 0) (by simp)
  have y1 := Y8.out.cell (j := 1) (by simp)
  have y2 := Y8.out.cell (j := 2) (by simp)
  simp only [List.getElem_cons_zero, List.getElem_cons_succ] at y0 y1 y2
  clear pc pf
  go_wp2
  have dS := Lib.hid (show w8.drew.cell? ⟨w.heap.size, 0, none⟩ = some (.int .i64 10) ∧ w8.drew.cell? ⟨w.heap.size, 1, none⟩ = some (.string key) ∧ w8.drew.cell? ⟨w.heap.size, 2, none⟩ = some (.string val) from ⟨y0, y1, y2⟩)
  have hne1 : w.heap.size ≠ G i 3 := by omega
  have hne2 : w.heap.size ≠ S := by omega
  have hne3 : w.heap.size + 1 ≠ G i 3 := by omega
  have hne4 : w.heap.size + 1 ≠ S := by omega
  go_region_held3 (fun wx => wx.cell? ⟨w.heap.size, 0, none⟩ = some (.int .i64 10) ∧ wx.cell? ⟨w.heap.size, 1, none⟩ = some (.string key) ∧ wx.cell? ⟨w.heap.size, 2, none⟩ = some (.string val))
    (first
      | with_reducible exact ⟨y0, y1, y2⟩
      | with_reducible exact dS.out
      | with_reducible exact ⟨cell_set3' z0 (by omega), cell_set3' z1 (by omega), cell_set3' z2 (by omega)⟩
      | with_reducible exact ⟨z0, z1, z2⟩)
    (first
      | (
        go_at_call 44
        refine (HSTORE.out _ (by first | exact O9.out | exact O9.out.same rfl) (by first | exact PC.out.1 | assumption) (by first | exact PC.out.2 | assumption)).mono ?_
        rintro e wB ⟨g', c', rfl, ho', hl', hc⟩
        have hcB : Chg w8 wB (G i 3) S (i * 5 + 4) (.slice (some ⟨g', 0, none⟩) (insL W.ss[i].wr key val).length c') := ⟨hc.os, hc.tape, hc.output, hc.size, hc.other, hc.here⟩
        have hlB : g' = G i 3 ∨ w8.heap.size ≤ g' := hl'
        have z0 := (World.cell?_of_block (a := ⟨w.heap.size, 0, none⟩) (hcB.other _ hw8 hne1 hne2)).trans y0
        have z1 := (World.cell?_of_block (a := ⟨w.heap.size, 1, none⟩) (hcB.other _ hw8 hne1 hne2)).trans y1
        have z2 := (World.cell?_of_block (a := ⟨w.heap.size, 2, none⟩) (hcB.other _ hw8 hne1 hne2)).trans y2
        have RB := X8.out.same (hcB.other _ hR8 hne3 hne4)
        have r0 := RB.cell (j := 0) (by simp)
        have r1 := RB.cell (j := 1) (by simp)
        have r2 := RB.cell (j := 2) (by simp)
        have s0 := RB.frozen 0
        have s1 := RB.frozen 1
        have s2 := RB.frozen 2
        simp only [List.getElem_cons_zero, List.getElem_cons_succ] at r0 r1 r2
        unfold ansV))
  have HZ8 := Lib.hid (And.intro ho' (And.intro hlB hcB))
  clear ho' hlB hcB hl' hc RB z0 z1 z2
  go_wp2
  refine bodyPost_ret (v := .agg #[.int .i64 1, .string ⟨#[]⟩, .int .i64 0]) (by simp [results, Tryd.results45, go_sem, r0, r1, r2]) rfl ?_
  obtain ⟨a1, a2, a3⟩ := HZ8.out
  have ch := (((a3.pull B8.out hpw).setN (p := ⟨w.heap.size + 1, 0, none⟩) (by simp) hpw (.int .i64 1)).setN (p := ⟨w.heap.size + 1, 1, none⟩) (by simp) hpw (.string ⟨#[]⟩)).setN (p := ⟨w.heap.size + 1, 2, none⟩) (by simp) hpw (.int .i64 0)
  have hgR : w.heap.size + 1 ≠ g' := by rcases a2 with hh | hh <;> omega
  have oF : OwnL (((wB.setCell ⟨w.heap.size + 1, 0, none⟩ (.int .i64 1)).setCell ⟨w.heap.size + 1, 1, none⟩ (.string ⟨#[]⟩)).setCell ⟨w.heap.size + 1, 2, none⟩ (.int .i64 0)) g' c' (insL W.ss[i].wr key val) := ⟨((a1.row.other hgR _).other hgR _).other hgR _, a1.len, a1.most⟩
  have hlg : base ≤ g' := by have q1 := lo.g i 3 hi (by omega); rcases a2 with hh | hh <;> omega
  refine ⟨rfl, H.out.stored lo hlg HZ.out hi (j := 3) (by omega) (by have h1 := plusL_len W.ss[i].wr key val; rw [plus_ins HWR.out] at h1; have := (HZ.out.li i 3 hi (by omega)).1; have e : (W.ss[i].li 3).length = W.ss[i].wr.length := rfl; show (insL W.ss[i].wr key val).length ≤ 1000; omega) (((HZ.out.li i 3 hi (by omega)).sz).ins (by omega) (by omega)) oF ch rfl (fun k hk => ?_), ch.bel (lo.g i 3 hi (by omega)) lo.s hb, fun b hb _ h2 _ h4 => ch.other b hb (h4 i 3 hi (by omega)) h2⟩
  rcases j4 hk with rfl | rfl | rfl | rfl <;> rfl

set_option maxHeartbeats 4000000 in
theorem put_wr_new (base X S gR cR : Nat) (G C : Nat → Nat → Nat) (W : Wd) (i : Nat) (key val : ByteArray) (w : World) (h : OwnD w X S gR cR G C W) (lo : LoD base X S gR G W.ss.length) (hw : WorldOk W) (hb : base ≤ w.heap.size) (hi : i < W.ss.length) (hkz : key.size ≤ 8) (hvz : val.size ≤ 60) (hown : fndL W.ss[i].wr key = false) (hc0 : cntL (W.ss.flatMap (·.wr)) key = 0) (hfn : fndL (allL W) key = false) (hfl : (allL W).length < 100) (hst : W.ss[i].st = 1) :
    Calls Tryd.prog 45 #[.pointer (some ⟨X, 0, none⟩), .int .i64 i, .agg #[.int .i64 10, .string key, .string val]] w (DonePost w base X S gR G W.ss.length (W.put i { W.ss[i] with wr := insL W.ss[i].wr key val })) := by
  have HOWN := Lib.hid hown
  have HROOM := Lib.hid (room_wr hw hi (key := key) (fun hh => by omega))
  have HRR := Lib.hid ((pairsB_rising hw.rows).1)
  clear hown
  have hz := worldOk_sz hw
  have hXw := h.box.lt
  have hSw := h.blk.lt
  have hpr := pairsB_rising hw.rows
  have HCW := Lib.hid (fun (w9 : World) (h9 : Wld w9 w9.heap.size (slc gR W.rows.length cR) (slc S W.ss.length W.ss.length) W) => countWriters_any _ _ W w9 h9 hpr.2.1 hpr.1 hw.many (fun j hj => (pairsB_rising (hw.sess j hj).wr).2.1))
  have HWR := Lib.hid ((pairsB_rising (hw.sess i hi).wr).1)
  have b0 : Below w.heap.size w ((w.alloc (.cells #[.int .i64 10, .string key, .string val] 27)).alloc (.cells #[.int .i64 0, .string ⟨#[]⟩, .int .i64 0] 30)) := ((Below.refl _ _).alloc (Nat.le_refl _) _).alloc (by simp) _
  have h0 := h.kept b0
  have x0 := h.box.cell (j := 0) (by simp)
  have x1 := h.box.cell (j := 1) (by simp)
  simp only [List.getElem_cons_zero, List.getElem_cons_succ] at x0 x1
  unfold slc at x0 x1
  have X0 : RowTo ((w.alloc (.cells #[.int .i64 10, .string key, .string val] 27)).alloc (.cells #[.int .i64 0, .string ⟨#[]⟩, .int .i64 0] 30)) (w.heap.size + 1) 30 3 [.int .i64 0, .string ⟨#[]⟩, .int .i64 0] := by
    have := RowTo.whole (w.alloc (.cells #[.int .i64 10, .string key, .string val] 27)) #[.int .i64 0, .string ⟨#[]⟩, .int .i64 0] 30
    simpa using this
  have Y0 : RowTo ((w.alloc (.cells #[.int .i64 10, .string key, .string val] 27)).alloc (.cells #[.int .i64 0, .string ⟨#[]⟩, .int .i64 0] 30)) w.heap.size 27 3 [.int .i64 10, .string key, .string val] := (RowTo.whole w #[.int .i64 10, .string key, .string val] 27).alloc _
  have hzs : ((w.alloc (.cells #[.int .i64 10, .string key, .string val] 27)).alloc (.cells #[.int .i64 0, .string ⟨#[]⟩, .int .i64 0] 30)).heap.size = w.heap.size + 1 + 1 := by simp
  have hkey := klKey (s := key) (by omega)
  have hii : (i : Int) < (W.ss.length : Int) := by omega
  have H := Lib.hid h
  have H0 := Lib.hid h0
  have HZ := Lib.hid hz
  have HW := Lib.hid hw
  have B0 := Lib.hid b0
  have HX0 := Lib.hid X0
  have HY0 := Lib.hid Y0
  have HZS := Lib.hid hzs
  clear h h0 hz hw b0 X0 Y0 hzs hpr
  go_enter Tryd.func45, Tryd.ntmps45
  go_wp2_with fail
  refine (HCW.out _ (H0.out.wld HZ.out)).mono ?_
  rintro e w1 ⟨bm, n, M, rfl, hown, hmap, hn, hbm, hb1⟩
  have hs1 := hb1.size
  have H1 := Lib.hid (H0.out.kept hb1)
  have B1 := Lib.hid (bel_add' B0.out hb1 B0.out.size)
  have X1 := Lib.hid (HX0.out.below hb1 HX0.out.lt)
  have Y1 := HY0.out.below hb1 HY0.out.lt
  have q1 := Y1.cell (j := 1) (by simp)
  simp only [List.getElem_cons_zero, List.getElem_cons_succ] at q1
  have HY1 := Lib.hid Y1
  have HO := Lib.hid hown
  have HM := Lib.hid hmap
  have HAT := Lib.hid (hmap.at_ key)
  have hhas : Maps.has M (kl key) = fndL (allL W) key := hmap.has key
  have hsize : Maps.size M = (allL W).length := hmap.size
  rw [HZS.out] at hs1
  have hbm' : w.heap.size + 1 + 1 ≤ bm := by rw [HZS.out] at hbm; exact hbm
  clear hown hmap hb1 Y1 x0 x1 hbm
  have g1 : decide ((0 : Int) < (cntL (W.ss.flatMap (·.wr)) key : Int)) = false := decide_eq_false (by omega)
  have g2 : decide (0 < cntL (W.ss.flatMap (·.wr)) key) = false := decide_eq_false (by omega)
  rw [hfn] at hhas
  have g3 : decide ((100 : Int) ≤ ((allL W).length : Int)) = false := decide_eq_false (by omega)
  have g4 : decide (100 ≤ (allL W).length) = false := decide_eq_false (by omega)
  go_wp2_with (first
    | (at_lookup; refine wpList_lookup_own_ok_int _ rfl _ _ 85 rfl 9 3 .i64 strLaw Tryd.underlying85 Tryd.underlying3 (zeroInt _) bm n _ rfl HO.out _ _ rfl hkey ?_; intro q hat hwq; obtain rfl : q = (cntL (W.ss.flatMap (·.wr)) key : Int) := (lit_inj (HAT.out.symm.trans hat)).symm; clear hat hwq)
    | go_in)
  have q4 : w1.cell? ⟨S, i * 5 + 4, none⟩ = some (.slice (some ⟨G i 3, 0, none⟩) W.ss[i].wr.length (C i 3)) := H1.out.cs i 3 hi (by omega)
  have hl4 := Lib.hid (show Lst w1 w1.heap.size (.slice (some ⟨G i 3, 0, none⟩) W.ss[i].wr.length (C i 3)) W.ss[i].wr from H1.out.list HZ.out hi (j := 3) (by omega))
  have hz0 : w.heap.size < w1.heap.size := by omega
  have hz1 : S < w1.heap.size := H1.out.blk.lt
  have kb := Below.refl w1.heap.size w1
  have dS := Lib.hid (show w1.drew.cell? ⟨S, i * 5 + 4, none⟩ = some (.slice (some ⟨G i 3, 0, none⟩) W.ss[i].wr.length (C i 3)) ∧ w1.drew.cell? ⟨w.heap.size, 1, none⟩ = some (.string key) from ⟨q4, q1⟩)
  go_region_held3 (fun wx => wx.cell? ⟨S, i * 5 + 4, none⟩ = some (.slice (some ⟨G i 3, 0, none⟩) W.ss[i].wr.length (C i 3)) ∧ wx.cell? ⟨w.heap.size, 1, none⟩ = some (.string key))
    (first
      | with_reducible exact ⟨q4, q1⟩
      | with_reducible exact dS.out
      | with_reducible exact ⟨(kb.cell (p := ⟨S, i * 5 + 4, none⟩) hz1).trans q4, (kb.cell (p := ⟨w.heap.size, 1, none⟩) hz0).trans q1⟩)
    (first
      | (
        go_at_call 62
        refine (place_any _ W.ss[i].wr key _ (by first | exact hl4.out | exact (hl4.out.step ((Below.refl _ _).drew)) | exact (hl4.out.step (below_drewN (Below.refl _ _) _))) HWR.out).mono ?_
        rw [HOWN.out]
        rintro e w8 ⟨rfl, hy⟩
        have kb : Below w1.heap.size w1 w8 := by first | exact kb.trans (hy.mono kb.size) | exact kb.trans ⟨hy.os, hy.tape, hy.output, hy.size, fun i hi => hy.block i (Nat.lt_of_lt_of_le hi kb.size)⟩))
  have hs8 := kb.size
  have H8 := Lib.hid (H1.out.kept kb)
  have B8 := Lib.hid (bel_add' B1.out kb B1.out.size)
  have X8 := Lib.hid (X1.out.below kb X1.out.lt)
  have Y8 := Lib.hid (HY1.out.below kb HY1.out.lt)
  have O8 := Lib.hid (HO.out.kept (grown_of_below kb none) (by simp))
  clear kb q1 q4 dS
  have hlen := O8.out.len (t := 85) (e := 3) Tryd.underlying85
  have c0 := H8.out.st i hi
  rw [hst] at c0
  have pc : w8.cell? ⟨S, i * 5 + 4, none⟩ = some (.slice (some ⟨G i 3, 0, none⟩) W.ss[i].wr.length (C i 3)) := H8.out.cs i 3 hi (by omega)
  have pf := H8.out.blk.frozen (i * 5 + 4)
  have hneg : S ≠ G i 3 := Ne.symm (H8.out.neGS i 3 hi (by omega))
  have hgw : G i 3 < w.heap.size := (H.out.ls i 3 hi (by omega)).row.lt
  have hpw : S < w.heap.size := hSw
  have HSTORE := Lib.hid (fun (w9 : World) (ho9 : OwnL w9 (G i 3) (C i 3) W.ss[i].wr) (hp9 : w9.cell? ⟨S, i * 5 + 4, none⟩ = some (.slice (some ⟨G i 3, 0, none⟩) W.ss[i].wr.length (C i 3))) (hf9 : w9.frozen? ⟨S, i * 5 + 4, none⟩ = false) => store_ok (G i 3) (C i 3) S (i * 5 + 4) W.ss[i].wr 10 key val 100 w9 ho9 HWR.out (by have := (HZ.out.li i 3 hi (by omega)).1; have e : (W.ss[i].li 3).length = W.ss[i].wr.length := rfl; omega) ((HZ.out.li i 3 hi (by omega)).sz) hp9 hf9 hneg (by omega) (by omega) HROOM.out)
  have O9 := Lib.hid (show OwnL w8 (G i 3) (C i 3) W.ss[i].wr from H8.out.ls i 3 hi (by omega))
  have PC := Lib.hid (And.intro pc pf)
  have hw8 : w.heap.size < w8.heap.size := by omega
  have hR8 : w.heap.size + 1 < w8.heap.size := by omega
  have y0 := Y8.out.cell (j := 0) (by simp)
  have y1 := Y8.out.cell (j := 1) (by simp)
  have y2 := Y8.out.cell (j := 2) (by simp)
  simp only [List.getElem_cons_zero, List.getElem_cons_succ] at y0 y1 y2
  clear pc pf
  go_wp2
  have dS := Lib.hid (show w8.drew.cell? ⟨w.heap.size, 0, none⟩ = some (.int .i64 10) ∧ w8.drew.cell? ⟨w.heap.size, 1, none⟩ = some (.string key) ∧ w8.drew.cell? ⟨w.heap.size, 2, none⟩ = some (.string val) from ⟨y0, y1, y2⟩)
  have hne1 : w.heap.size ≠ G i 3 := by omega
  have hne2 : w.heap.size ≠ S := by omega
  have hne3 : w.heap.size + 1 ≠ G i 3 := by omega
  have hne4 : w.heap.size + 1 ≠ S := by omega
  go_region_held3 (fun wx => wx.cell? ⟨w.heap.size, 0, none⟩ = some (.int .i64 10) ∧ wx.cell? ⟨w.heap.size, 1, none⟩ = some (.string key) ∧ wx.cell? ⟨w.heap.size, 2, none⟩ = some (.string val))
    (first
      | with_reducible exact ⟨y0, y1, y2⟩
      | with_reducible exact dS.out
      | with_reducible exact ⟨cell_set3' z0 (by omega), cell_set3' z1 (by omega), cell_set3' z2 (by omega)⟩
      | with_reducible exact ⟨z0, z1, z2⟩)
    (first
      | (
        go_at_call 44
        refine (HSTORE.out _ (by first | exact O9.out | exact O9.out.same rfl) (by first | exact PC.out.1 | assumption) (by first | exact PC.out.2 | assumption)).mono ?_
        rintro e wB ⟨g', c', rfl, ho', hl', hc⟩
        have hcB : Chg w8 wB (G i 3) S (i * 5 + 4) (.slice (some ⟨g', 0, none⟩) (insL W.ss[i].wr key val).length c') := ⟨hc.os, hc.tape, hc.output, hc.size, hc.other, hc.here⟩
        have hlB : g' = G i 3 ∨ w8.heap.size ≤ g' := hl'
        have z0 := (World.cell?_of_block (a := ⟨w.heap.size, 0, none⟩) (hcB.other _ hw8 hne1 hne2)).trans y0
        have z1 := (World.cell?_of_block (a := ⟨w.heap.size, 1, none⟩) (hcB.other _ hw8 hne1 hne2)).trans y1
        have z2 := (World.cell?_of_block (a := ⟨w.heap.size, 2, none⟩) (hcB.other _ hw8 hne1 hne2)).trans y2
        have RB := X8.out.same (hcB.other _ hR8 hne3 hne4)
        have r0 := RB.cell (j := 0) (by simp)
        have r1 := RB.cell (j := 1) (by simp)
        have r2 := RB.cell (j := 2) (by simp)
        have s0 := RB.frozen 0
        have s1 := RB.frozen 1
        have s2 := RB.frozen 2
        simp only [List.getElem_cons_zero, List.getElem_cons_succ] at r0 r1 r2
        unfold ansV))
  have HZ8 := Lib.hid (And.intro ho' (And.intro hlB hcB))
  clear ho' hlB hcB hl' hc RB z0 z1 z2
  go_wp2
  refine bodyPost_ret (v := .agg #[.int .i64 1, .string ⟨#[]⟩, .int .i64 0]) (by simp [results, Tryd.results45, go_sem, r0, r1, r2]) rfl ?_
  obtain ⟨a1, a2, a3⟩ := HZ8.out
  have ch := (((a3.pull B8.out hpw).setN (p := ⟨w.heap.size + 1, 0, none⟩) (by simp) hpw (.int .i64 1)).setN (p := ⟨w.heap.size + 1, 1, none⟩) (by simp) hpw (.string ⟨#[]⟩)).setN (p := ⟨w.heap.size + 1, 2, none⟩) (by simp) hpw (.int .i64 0)
  have hgR : w.heap.size + 1 ≠ g' := by rcases a2 with hh | hh <;> omega
  have oF : OwnL (((wB.setCell ⟨w.heap.size + 1, 0, none⟩ (.int .i64 1)).setCell ⟨w.heap.size + 1, 1, none⟩ (.string ⟨#[]⟩)).setCell ⟨w.heap.size + 1, 2, none⟩ (.int .i64 0)) g' c' (insL W.ss[i].wr key val) := ⟨((a1.row.other hgR _).other hgR _).other hgR _, a1.len, a1.most⟩
  have hlg : base ≤ g' := by have q1 := lo.g i 3 hi (by omega); rcases a2 with hh | hh <;> omega
  refine ⟨rfl, H.out.stored lo hlg HZ.out hi (j := 3) (by omega) (by have h1 := plusL_len W.ss[i].wr key val; rw [plus_ins HWR.out] at h1; have := (HZ.out.li i 3 hi (by omega)).1; have e : (W.ss[i].li 3).length = W.ss[i].wr.length := rfl; show (insL W.ss[i].wr key val).length ≤ 1000; omega) (((HZ.out.li i 3 hi (by omega)).sz).ins (by omega) (by omega)) oF ch rfl (fun k hk => ?_), ch.bel (lo.g i 3 hi (by omega)) lo.s hb, fun b hb _ h2 _ h4 => ch.other b hb (h4 i 3 hi (by omega)) h2⟩
  rcases j4 hk with rfl | rfl | rfl | rfl <;> rfl

end Go.Proofs.YtpbaobmegomfpabDoor

/-
  Walks of back.put that store: into the Rows.
-/
namespace Go.Proofs.YtpbaobmegomfpabDoor
open Go.RowKit Go.Maps Go.WideMaps
set_option linter.unusedVariables false
set_option linter.unusedSimpArgs false
set_option maxRecDepth 100000

set_option maxHeartbeats 4000000 in
theorem put_row_is (base X S gR cR : Nat) (G C : Nat → Nat → Nat) (W : Wd) (i : Nat) (key val : ByteArray) (w : World) (h : OwnD w X S gR cR G C W) (lo : LoD base X S gR G W.ss.length) (hw : WorldOk W) (hb : base ≤ w.heap.size) (hi : i < W.ss.length) (hkz : key.size ≤ 8) (hvz : val.size ≤ 60) (hown : fndL W.ss[i].wr key = false) (hc0 : cntL (W.ss.flatMap (·.wr)) key = 0) (hfn : fndL (allL W) key = true) (hst : W.ss[i].st ≠ 1) :
    Calls Tryd.prog 45 #[.pointer (some ⟨X, 0, none⟩), .int .i64 i, .agg #[.int .i64 10, .string key, .string val]] w (DonePost w base X S gR G W.ss.length ⟨insL W.rows key val, W.ss⟩) := by
  have HOWN := Lib.hid hown
  have HROOM := Lib.hid (room_rows hw (key := key) (fun hh => by rw [hfn] at hh; cases hh.1))
  have HRR := Lib.hid ((pairsB_rising hw.rows).1)
  clear hown
  have hz := worldOk_sz hw
  have hXw := h.box.lt
  have hSw := h.blk.lt
  have hpr := pairsB_rising hw.rows
  have HCW := Lib.hid (fun (w9 : World) (h9 : Wld w9 w9.heap.size (slc gR W.rows.length cR) (slc S W.ss.length W.ss.length) W) => countWriters_any _ _ W w9 h9 hpr.2.1 hpr.1 hw.many (fun j hj => (pairsB_rising (hw.sess j hj).wr).2.1))
  have HWR := Lib.hid ((pairsB_rising (hw.sess i hi).wr).1)
  have b0 : Below w.heap.size w ((w.alloc (.cells #[.int .i64 10, .string key, .string val] 27)).alloc (.cells #[.int .i64 0, .string ⟨#[]⟩, .int .i64 0] 30)) := ((Below.refl _ _).alloc (Nat.le_refl _) _).alloc (by simp) _
  have h0 := h.kept b0
  have x0 := h.box.cell (j := 0) (by simp)
  have x1 := h.box.cell (j := 1) (by simp)
  simp only [List.getElem_cons_zero, List.getElem_cons_succ] at x0 x1
  unfold slc at x0 x1
  have X0 : RowTo ((w.alloc (.cells #[.int .i64 10, .string key, .string val] 27)).alloc (.cells #[.int .i64 0, .string ⟨#[]⟩, .int .i64 0] 30)) (w.heap.size + 1) 30 3 [.int .i64 0, .string ⟨#[]⟩, .int .i64 0] := by
    have := RowTo.whole (w.alloc (.cells #[.int .i64 10, .string key, .string val] 27)) #[.int .i64 0, .string ⟨#[]⟩, .int .i64 0] 30
    simpa using this
  have Y0 : RowTo ((w.alloc (.cells #[.int .i64 10, .string key, .string val] 27)).alloc (.cells #[.int .i64 0, .string ⟨#[]⟩, .int .i64 0] 30)) w.heap.size 27 3 [.int .i64 10, .string key, .string val] := (RowTo.whole w #[.int .i64 10, .string key, .string val] 27).alloc _
  have hzs : ((w.alloc (.cells #[.int .i64 10, .string key, .string val] 27)).alloc (.cells #[.int .i64 0, .string ⟨#[]⟩, .int .i64 0] 30)).heap.size = w.heap.size + 1 + 1 := by simp
  have hkey := klKey (s := key) (by omega)
  have hii : (i : Int) < (W.ss.length : Int) := by omega
  have H := Lib.hid h
  have H0 := Lib.hid h0
  have HZ := Lib.hid hz
  have HW := Lib.hid hw
  have B0 := Lib.hid b0
  have HX0 := Lib.hid X0
  have HY0 := Lib.hid Y0
  have HZS := Lib.hid hzs
  clear h h0 hz hw b0 X0 Y0 hzs hpr
  go_enter Tryd.func45, Tryd.ntmps45
  go_wp2_with fail
  refine (HCW.out _ (H0.out.wld HZ.out)).mono ?_
  rintro e w1 ⟨bm, n, M, rfl, hown, hmap, hn, hbm, hb1⟩
  have hs1 := hb1.size
  have H1 := Lib.hid (H0.out.kept hb1)
  have B1 := Lib.hid (bel_add' B0.out hb1 B0.out.size)
  have X1 := Lib.hid (HX0.out.below hb1 HX0.out.lt)
  have Y1 := HY0.out.below hb1 HY0.out.lt
  have q1 := Y1.cell (j := 1) (by simp)
  simp only [List.getElem_cons_zero, List.getElem_cons_succ] at q1
  have HY1 := Lib.hid Y1
  have HO := Lib.hid hown
  have HM := Lib.hid hmap
  have HAT := Lib.hid (hmap.at_ key)
  have hhas : Maps.has M (kl key) = fndL (allL W) key := hmap.has key
  have hsize : Maps.size M = (allL W).length := hmap.size
  rw [HZS.out] at hs1
  have hbm' : w.heap.size + 1 + 1 ≤ bm := by rw [HZS.out] at hbm; exact hbm
  clear hown hmap hb1 Y1 x0 x1 hbm
  have g1 : decide ((0 : Int) < (cntL (W.ss.flatMap (·.wr)) key : Int)) = false := decide_eq_false (by omega)
  have g2 : decide (0 < cntL (W.ss.flatMap (·.wr)) key) = false := decide_eq_false (by omega)
  rw [hfn] at hhas
  go_wp2_with (first
    | (at_lookup; refine wpList_lookup_own_ok_int _ rfl _ _ 85 rfl 9 3 .i64 strLaw Tryd.underlying85 Tryd.underlying3 (zeroInt _) bm n _ rfl HO.out _ _ rfl hkey ?_; intro q hat hwq; obtain rfl : q = (cntL (W.ss.flatMap (·.wr)) key : Int) := (lit_inj (HAT.out.symm.trans hat)).symm; clear hat hwq)
    | go_in)
  have q4 : w1.cell? ⟨S, i * 5 + 4, none⟩ = some (.slice (some ⟨G i 3, 0, none⟩) W.ss[i].wr.length (C i 3)) := H1.out.cs i 3 hi (by omega)
  have hl4 := Lib.hid (show Lst w1 w1.heap.size (.slice (some ⟨G i 3, 0, none⟩) W.ss[i].wr.length (C i 3)) W.ss[i].wr from H1.out.list HZ.out hi (j := 3) (by omega))
  have hz0 : w.heap.size < w1.heap.size := by omega
  have hz1 : S < w1.heap.size := H1.out.blk.lt
  have kb := Below.refl w1.heap.size w1
  have dS := Lib.hid (show w1.drew.cell? ⟨S, i * 5 + 4, none⟩ = some (.slice (some ⟨G i 3, 0, none⟩) W.ss[i].wr.length (C i 3)) ∧ w1.drew.cell? ⟨w.heap.size, 1, none⟩ = some (.string key) from ⟨q4, q1⟩)
  go_region_held3 (fun wx => wx.cell? ⟨S, i * 5 + 4, none⟩ = some (.slice (some ⟨G i 3, 0, none⟩) W.ss[i].wr.length (C i 3)) ∧ wx.cell? ⟨w.heap.size, 1, none⟩ = some (.string key))
    (first
      | with_reducible exact ⟨q4, q1⟩
      | with_reducible exact dS.out
      | with_reducible exact ⟨(kb.cell (p := ⟨S, i * 5 + 4, none⟩) hz1).trans q4, (kb.cell (p := ⟨w.heap.size, 1, none⟩) hz0).trans q1⟩)
    (first
      | (
        go_at_call 62
        refine (place_any _ W.ss[i].wr key _ (by first | exact hl4.out | exact (hl4.out.step ((Below.refl _ _).drew)) | exact (hl4.out.step (below_drewN (Below.refl _ _) _))) HWR.out).mono ?_
        rw [HOWN.out]
        rintro e w8 ⟨rfl, hy⟩
        have kb : Below w1.heap.size w1 w8 := by first | exact kb.trans (hy.mono kb.size) | exact kb.trans ⟨hy.os, hy.tape, hy.output, hy.size, fun i hi => hy.block i (Nat.lt_of_lt_of_le hi kb.size)⟩))
  have hs8 := kb.size
  have H8 := Lib.hid (H1.out.kept kb)
  have B8 := Lib.hid (bel_add' B1.out kb B1.out.size)
  have X8 := Lib.hid (X1.out.below kb X1.out.lt)
  have Y8 := Lib.hid (HY1.out.below kb HY1.out.lt)
  have O8 := Lib.hid (HO.out.kept (grown_of_below kb none) (by simp))
  clear kb q1 q4 dS
  have c0 := H8.out.st i hi
  have e9 : (W.ss[i].st == 1) = false := beq_eq_false_iff_ne.2 hst
  have pc : w8.cell? ⟨X, 0, none⟩ = some (.slice (some ⟨gR, 0, none⟩) W.rows.length cR) := by have := H8.out.box.cell (j := 0) (by simp); simpa [slc] using this
  have pf := H8.out.box.frozen 0
  have hneg : X ≠ gR := Ne.symm H8.out.neRX
  have hgw : gR < w.heap.size := H.out.rows.row.lt
  have hpw : X < w.heap.size := hXw
  have HSTORE := Lib.hid (fun (w9 : World) (ho9 : OwnL w9 gR cR W.rows) (hp9 : w9.cell? ⟨X, 0, none⟩ = some (.slice (some ⟨gR, 0, none⟩) W.rows.length cR)) (hf9 : w9.frozen? ⟨X, 0, none⟩ = false) => store_ok gR cR X 0 W.rows 10 key val 100 w9 ho9 HRR.out (by have := HZ.out.rows.1; omega) (HZ.out.rows.sz) hp9 hf9 hneg (by omega) (by omega) HROOM.out)
  have O9 := Lib.hid (show OwnL w8 gR cR W.rows from H8.out.rows)
  have PC := Lib.hid (And.intro pc pf)
  have hw8 : w.heap.size < w8.heap.size := by omega
  have hR8 : w.heap.size + 1 < w8.heap.size := by omega
  have y0 := Y8.out.cell (j := 0) (by simp)
  have y1 := Y8.out.cell (j := 1) (by simp)
  have y2 := Y8.out.cell (j := 2) (by simp)
  simp only [List.getElem_cons_zero, List.getElem_cons_succ] at y0 y1 y2
  clear pc pf
  go_wp2
  have dS := Lib.hid (show w8.drew.cell? ⟨w.heap.size, 0, none⟩ = some (.int .i64 10) ∧ w8.drew.cell? ⟨w.heap.size, 1, none⟩ = some (.string key) ∧ w8.drew.cell? ⟨w.heap.size, 2, none⟩ = some (.string val) from ⟨y0, y1, y2⟩)
  have hne1 : w.heap.size ≠ gR := by omega
  have hne2 : w.heap.size ≠ X := by omega
  have hne3 : w.heap.size + 1 ≠ gR := by omega
  have hne4 : w.heap.size + 1 ≠ X := by omega
  go_region_held3 (fun wx => wx.cell? ⟨w.heap.size, 0, none⟩ = some (.int .i64 10) ∧ wx.cell? ⟨w.heap.size, 1, none⟩ = some (.string key) ∧ wx.cell? ⟨w.heap.size, 2, none⟩ = some (.string val))
    (first
      | with_reducible exact ⟨y0, y1, y2⟩
      | with_reducible exact dS.out
      | with_reducible exact ⟨cell_set3' z0 (by omega), cell_set3' z1 (by omega), cell_set3' z2 (by omega)⟩
      | with_reducible exact ⟨z0, z1, z2⟩)
    (first
      | (
        go_at_call 44
        refine (HSTORE.out _ (by first | exact O9.out | exact O9.out.same rfl) (by first | exact PC.out.1 | assumption) (by first | exact PC.out.2 | assumption)).mono ?_
        rintro e wB ⟨g', c', rfl, ho', hl', hc⟩
        have hcB : Chg w8 wB gR X 0 (.slice (some ⟨g', 0, none⟩) (insL W.rows key val).length c') := ⟨hc.os, hc.tape, hc.output, hc.size, hc.other, hc.here⟩
        have hlB : g' = gR ∨ w8.heap.size ≤ g' := hl'
        have z0 := (World.cell?_of_block (a := ⟨w.heap.size, 0, none⟩) (hcB.other _ hw8 hne1 hne2)).trans y0
        have z1 := (World.cell?_of_block (a := ⟨w.heap.size, 1, none⟩) (hcB.other _ hw8 hne1 hne2)).trans y1
        have z2 := (World.cell?_of_block (a := ⟨w.heap.size, 2, none⟩) (hcB.other _ hw8 hne1 hne2)).trans y2
        have RB := X8.out.same (hcB.other _ hR8 hne3 hne4)
        have r0 := RB.cell (j := 0) (by simp)
        have r1 := RB.cell (j := 1) (by simp)
        have r2 := RB.cell (j := 2) (by simp)
        have s0 := RB.frozen 0
        have s1 := RB.frozen 1
        have s2 := RB.frozen 2
        simp only [List.getElem_cons_zero, List.getElem_cons_succ] at r0 r1 r2
        unfold ansV))
  have HZ8 := Lib.hid (And.intro ho' (And.intro hlB hcB))
  clear ho' hlB hcB hl' hc RB z0 z1 z2
  go_wp2
  refine bodyPost_ret (v := .agg #[.int .i64 1, .string ⟨#[]⟩, .int .i64 0]) (by simp [results, Tryd.results45, go_sem, r0, r1, r2]) rfl ?_
  obtain ⟨a1, a2, a3⟩ := HZ8.out
  have ch := (((a3.pull B8.out hpw).setN (p := ⟨w.heap.size + 1, 0, none⟩) (by simp) hpw (.int .i64 1)).setN (p := ⟨w.heap.size + 1, 1, none⟩) (by simp) hpw (.string ⟨#[]⟩)).setN (p := ⟨w.heap.size + 1, 2, none⟩) (by simp) hpw (.int .i64 0)
  have hgR : w.heap.size + 1 ≠ g' := by rcases a2 with hh | hh <;> omega
  have oF : OwnL (((wB.setCell ⟨w.heap.size + 1, 0, none⟩ (.int .i64 1)).setCell ⟨w.heap.size + 1, 1, none⟩ (.string ⟨#[]⟩)).setCell ⟨w.heap.size + 1, 2, none⟩ (.int .i64 0)) g' c' (insL W.rows key val) := ⟨((a1.row.other hgR _).other hgR _).other hgR _, a1.len, a1.most⟩
  have hlg : base ≤ g' := by have q1 := lo.r; rcases a2 with hh | hh <;> omega
  exact ⟨rfl, H.out.storedR lo hlg HZ.out hi (by have h1 := plusL_len W.rows key val; rw [plus_ins HRR.out] at h1; have := HZ.out.rows.1; omega) (HZ.out.rows.sz.ins (by omega) (by omega)) oF ch, ch.bel lo.r lo.x hb, fun b hb h1 _ h3 _ => ch.other b hb h3 h1⟩

set_option maxHeartbeats 4000000 in
theorem put_row_new (base X S gR cR : Nat) (G C : Nat → Nat → Nat) (W : Wd) (i : Nat) (key val : ByteArray) (w : World) (h : OwnD w X S gR cR G C W) (lo : LoD base X S gR G W.ss.length) (hw : WorldOk W) (hb : base ≤ w.heap.size) (hi : i < W.ss.length) (hkz : key.size ≤ 8) (hvz : val.size ≤ 60) (hown : fndL W.ss[i].wr key = false) (hc0 : cntL (W.ss.flatMap (·.wr)) key = 0) (hfn : fndL (allL W) key = false) (hfl : (allL W).length < 100) (hst : W.ss[i].st ≠ 1) :
    Calls Tryd.prog 45 #[.pointer (some ⟨X, 0, none⟩), .int .i64 i, .agg #[.int .i64 10, .string key, .string val]] w (DonePost w base X S gR G W.ss.length ⟨insL W.rows key val, W.ss⟩) := by
  have HOWN := Lib.hid hown
  have HROOM := Lib.hid (room_rows hw (key := key) (fun hh => by omega))
  have HRR := Lib.hid ((pairsB_rising hw.rows).1)
  clear hown
  have hz := worldOk_sz hw
  have hXw := h.box.lt
  have hSw := h.blk.lt
  have hpr := pairsB_rising hw.rows
  have HCW := Lib.hid (fun (w9 : World) (h9 : Wld w9 w9.heap.size (slc gR W.rows.length cR) (slc S W.ss.length W.ss.length) W) => countWriters_any _ _ W w9 h9 hpr.2.1 hpr.1 hw.many (fun j hj => (pairsB_rising (hw.sess j hj).wr).2.1))
  have HWR := Lib.hid ((pairsB_rising (hw.sess i hi).wr).1)
  have b0 : Below w.heap.size w ((w.alloc (.cells #[.int .i64 10, .string key, .string val] 27)).alloc (.cells #[.int .i64 0, .string ⟨#[]⟩, .int .i64 0] 30)) := ((Below.refl _ _).alloc (Nat.le_refl _) _).alloc (by simp) _
  have h0 := h.kept b0
  have x0 := h.box.cell (j := 0) (by simp)
  have x1 := h.box.cell (j := 1) (by simp)
  simp only [List.getElem_cons_zero, List.getElem_cons_succ] at x0 x1
  unfold slc at x0 x1
  have X0 : RowTo ((w.alloc (.cells #[.int .i64 10, .string key, .string val] 27)).alloc (.cells #[.int .i64 0, .string ⟨#[]⟩, .int .i64 0] 30)) (w.heap.size + 1) 30 3 [.int .i64 0, .string ⟨#[]⟩, .int .i64 0] := by
    have := RowTo.whole (w.alloc (.cells #[.int .i64 10, .string key, .string val] 27)) #[.int .i64 0, .string ⟨#[]⟩, .int .i64 0] 30
    simpa using this
  have Y0 : RowTo ((w.alloc (.cells #[.int .i64 10, .string key, .string val] 27)).alloc (.cells #[.int .i64 0, .string ⟨#[]⟩, .int .i64 0] 30)) w.heap.size 27 3 [.int .i64 10, .string key, .string val] := (RowTo.whole w #[.int .i64 10, .string key, .string val] 27).alloc _
  have hzs : ((w.alloc (.cells #[.int .i64 10, .string key, .string val] 27)).alloc (.cells #[.int .i64 0, .string ⟨#[]⟩, .int .i64 0] 30)).heap.size = w.heap.size + 1 + 1 := by simp
  have hkey := klKey (s := key) (by omega)
  have hii : (i : Int) < (W.ss.length : Int) := by omega
  have H := Lib.hid h
  have H0 := Lib.hid h0
  have HZ := Lib.hid hz
  have HW := Lib.hid hw
  have B0 := Lib.hid b0
  have HX0 := Lib.hid X0
  have HY0 := Lib.hid Y0
  have HZS := Lib.hid hzs
  clear h h0 hz hw b0 X0 Y0 hzs hpr
  go_enter Tryd.func45, Tryd.ntmps45
  go_wp2_with fail
  refine (HCW.out _ (H0.out.wld HZ.out)).mono ?_
  rintro e w1 ⟨bm, n, M, rfl, hown, hmap, hn, hbm, hb1⟩
  have hs1 := hb1.size
  have H1 := Lib.hid (H0.out.kept hb1)
  have B1 := Lib.hid (bel_add' B0.out hb1 B0.out.size)
  have X1 := Lib.hid (HX0.out.below hb1 HX0.out.lt)
  have Y1 := HY0.out.below hb1 HY0.out.lt
  have q1 := Y1.cell (j := 1) (by simp)
  simp only [List.getElem_cons_zero, List.getElem_cons_succ] at q1
  have HY1 := Lib.hid Y1
  have HO := Lib.hid hown
  have HM := Lib.hid hmap
  have HAT := Lib.hid (hmap.at_ key)
  have hhas : Maps.has M (kl key) = fndL (allL W) key := hmap.has key
  have hsize : Maps.size M = (allL W).length := hmap.size
  rw [HZS.out] at hs1
  have hbm' : w.heap.size + 1 + 1 ≤ bm := by rw [HZS.out] at hbm; exact hbm
  clear hown hmap hb1 Y1 x0 x1 hbm
  have g1 : decide ((0 : Int) < (cntL (W.ss.flatMap (·.wr)) key : Int)) = false := decide_eq_false (by omega)
  have g2 : decide (0 < cntL (W.ss.flatMap (·.wr)) key) = false := decide_eq_false (by omega)
  rw [hfn] at hhas
  have g3 : decide ((100 : Int) ≤ ((allL W).length : Int)) = false := decide_eq_false (by omega)
  have g4 : decide (100 ≤ (allL W).length) = false := decide_eq_false (by omega)
  go_wp2_with (first
    | (at_lookup; refine wpList_lookup_own_ok_int _ rfl _ _ 85 rfl 9 3 .i64 strLaw Tryd.underlying85 Tryd.underlying3 (zeroInt _) bm n _ rfl HO.out _ _ rfl hkey ?_; intro q hat hwq; obtain rfl : q = (cntL (W.ss.flatMap (·.wr)) key : Int) := (lit_inj (HAT.out.symm.trans hat)).symm; clear hat hwq)
    | go_in)
  have q4 : w1.cell? ⟨S, i * 5 + 4, none⟩ = some (.slice (some ⟨G i 3, 0, none⟩) W.ss[i].wr.length (C i 3)) := H1.out.cs i 3 hi (by omega)
  have hl4 := Lib.hid (show Lst w1 w1.heap.size (.slice (some ⟨G i 3, 0, none⟩) W.ss[i].wr.length (C i 3)) W.ss[i].wr from H1.out.list HZ.out hi (j := 3) (by omega))
  have hz0 : w.heap.size < w1.heap.size := by omega
  have hz1 : S < w1.heap.size := H1.out.blk.lt
  have kb := Below.refl w1.heap.size w1
  have dS := Lib.hid (show w1.drew.cell? ⟨S, i * 5 + 4, none⟩ = some (.slice (some ⟨G i 3, 0, none⟩) W.ss[i].wr.length (C i 3)) ∧ w1.drew.cell? ⟨w.heap.size, 1, none⟩ = some (.string key) from ⟨q4, q1⟩)
  go_region_held3 (fun wx => wx.cell? ⟨S, i * 5 + 4, none⟩ = some (.slice (some ⟨G i 3, 0, none⟩) W.ss[i].wr.length (C i 3)) ∧ wx.cell? ⟨w.heap.size, 1, none⟩ = some (.string key))
    (first
      | with_reducible exact ⟨q4, q1⟩
      | with_reducible exact dS.out
      | with_reducible exact ⟨(kb.cell (p := ⟨S, i * 5 + 4, none⟩) hz1).trans q4, (kb.cell (p := ⟨w.heap.size, 1, none⟩) hz0).trans q1⟩)
    (first
      | (
        go_at_call 62
        refine (place_any _ W.ss[i].wr key _ (by first | exact hl4.out | exact (hl4.out.step ((Below.refl _ _).drew)) | exact (hl4.out.step (below_drewN (Below.refl _ _) _))) HWR.out).mono ?_
        rw [HOWN.out]
        rintro e w8 ⟨rfl, hy⟩
        have kb : Below w1.heap.size w1 w8 := by first | exact kb.trans (hy.mono kb.size) | exact kb.trans ⟨hy.os, hy.tape, hy.output, hy.size, fun i hi => hy.block i (Nat.lt_of_lt_of_le hi kb.size)⟩))
  have hs8 := kb.size
  have H8 := Lib.hid (H1.out.kept kb)
  have B8 := Lib.hid (bel_add' B1.out kb B1.out.size)
  have X8 := Lib.hid (X1.out.below kb X1.out.lt)
  have Y8 := Lib.hid (HY1.out.below kb HY1.out.lt)
  have O8 := Lib.hid (HO.out.kept (grown_of_below kb none) (by simp))
  clear kb q1 q4 dS
  have hlen := O8.out.len (t := 85) (e := 3) Tryd.underlying85
  have c0 := H8.out.st i hi
  have e9 : (W.ss[i].st == 1) = false := beq_eq_false_iff_ne.2 hst
  have pc : w8.cell? ⟨X, 0, none⟩ = some (.slice (some ⟨gR, 0, none⟩) W.rows.length cR) := by have := H8.out.box.cell (j := 0) (by simp); simpa [slc] using this
  have pf := H8.out.box.frozen 0
  have hneg : X ≠ gR := Ne.symm H8.out.neRX
  have hgw : gR < w.heap.size := H.out.rows.row.lt
  have hpw : X < w.heap.size := hXw
  have HSTORE := Lib.hid (fun (w9 : World) (ho9 : OwnL w9 gR cR W.rows) (hp9 : w9.cell? ⟨X, 0, none⟩ = some (.slice (some ⟨gR, 0, none⟩) W.rows.length cR)) (hf9 : w9.frozen? ⟨X, 0, none⟩ = false) => store_ok gR cR X 0 W.rows 10 key val 100 w9 ho9 HRR.out (by have := HZ.out.rows.1; omega) (HZ.out.rows.sz) hp9 hf9 hneg (by omega) (by omega) HROOM.out)
  have O9 := Lib.hid (show OwnL w8 gR cR W.rows from H8.out.rows)
  have PC := Lib.hid (And.intro pc pf)
  have hw8 : w.heap.size < w8.heap.size := by omega
  have hR8 : w.heap.size + 1 < w8.heap.size := by omega
  have y0 := Y8.out.cell (j := 0) (by simp)
  have y1 := Y8.out.cell (j := 1) (by simp)
  have y2 := Y8.out.cell (j := 2) (by simp)
  simp only [List.getElem_cons_zero, List.getElem_cons_succ] at y0 y1 y2
  clear pc pf
  go_wp2
  have dS := Lib.hid (show w8.drew.cell? ⟨w.heap.size, 0, none⟩ = some (.int .i64 10) ∧ w8.drew.cell? ⟨w.heap.size, 1, none⟩ = some (.string key) ∧ w8.drew.cell? ⟨w.heap.size, 2, none⟩ = some (.string val) from ⟨y0, y1, y2⟩)
  have hne1 : w.heap.size ≠ gR := by omega
  have hne2 : w.heap.size ≠ X := by omega
  have hne3 : w.heap.size + 1 ≠ gR := by omega
  have hne4 : w.heap.size + 1 ≠ X := by omega
  go_region_held3 (fun wx => wx.cell? ⟨w.heap.size, 0, none⟩ = some (.int .i64 10) ∧ wx.cell? ⟨w.heap.size, 1, none⟩ = some (.string key) ∧ wx.cell? ⟨w.heap.size, 2, none⟩ = some (.string val))
    (first
      | with_reducible exact ⟨y0, y1, y2⟩
      | with_reducible exact dS.out
      | with_reducible exact ⟨cell_set3' z0 (by omega), cell_set3' z1 (by omega), cell_set3' z2 (by omega)⟩
      | with_reducible exact ⟨z0, z1, z2⟩)
    (first
      | (
        go_at_call 44
        refine (HSTORE.out _ (by first | exact O9.out | exact O9.out.same rfl) (by first | exact PC.out.1 | assumption) (by first | exact PC.out.2 | assumption)).mono ?_
        rintro e wB ⟨g', c', rfl, ho', hl', hc⟩
        have hcB : Chg w8 wB gR X 0 (.slice (some ⟨g', 0, none⟩) (insL W.rows key val).length c') := ⟨hc.os, hc.tape, hc.output, hc.size, hc.other, hc.here⟩
        have hlB : g' = gR ∨ w8.heap.size ≤ g' := hl'
        have z0 := (World.cell?_of_block (a := ⟨w.heap.size, 0, none⟩) (hcB.other _ hw8 hne1 hne2)).trans y0
        have z1 := (World.cell?_of_block (a := ⟨w.heap.size, 1, none⟩) (hcB.other _ hw8 hne1 hne2)).trans y1
        have z2 := (World.cell?_of_block (a := ⟨w.heap.size, 2, none⟩) (hcB.other _ hw8 hne1 hne2)).trans y2
        have RB := X8.out.same (hcB.other _ hR8 hne3 hne4)
        have r0 := RB.cell (j := 0) (by simp)
        have r1 := RB.cell (j := 1) (by simp)
        have r2 := RB.cell (j := 2) (by simp)
        have s0 := RB.frozen 0
        have s1 := RB.frozen 1
        have s2 := RB.frozen 2
        simp only [List.getElem_cons_zero, List.getElem_cons_succ] at r0 r1 r2
        unfold ansV))
  have HZ8 := Lib.hid (And.intro ho' (And.intro hlB hcB))
  clear ho' hlB hcB hl' hc RB z0 z1 z2
  go_wp2
  refine bodyPost_ret (v := .agg #[.int .i64 1, .string ⟨#[]⟩, .int .i64 0]) (by simp [results, Tryd.results45, go_sem, r0, r1, r2]) rfl ?_
  obtain ⟨a1, a2, a3⟩ := HZ8.out
  have ch := (((a3.pull B8.out hpw).setN (p := ⟨w.heap.size + 1, 0, none⟩) (by simp) hpw (.int .i64 1)).setN (p := ⟨w.heap.size + 1, 1, none⟩) (by simp) hpw (.string ⟨#[]⟩)).setN (p := ⟨w.heap.size + 1, 2, none⟩) (by simp) hpw (.int .i64 0)
  have hgR : w.heap.size + 1 ≠ g' := by rcases a2 with hh | hh <;> omega
  have oF : OwnL (((wB.setCell ⟨w.heap.size + 1, 0, none⟩ (.int .i64 1)).setCell ⟨w.heap.size + 1, 1, none⟩ (.string ⟨#[]⟩)).setCell ⟨w.heap.size + 1, 2, none⟩ (.int .i64 0)) g' c' (insL W.rows key val) := ⟨((a1.row.other hgR _).other hgR _).other hgR _, a1.len, a1.most⟩
  have hlg : base ≤ g' := by have q1 := lo.r; rcases a2 with hh | hh <;> omega
  exact ⟨rfl, H.out.storedR lo hlg HZ.out hi (by have h1 := plusL_len W.rows key val; rw [plus_ins HRR.out] at h1; have := HZ.out.rows.1; omega) (HZ.out.rows.sz.ins (by omega) (by omega)) oF ch, ch.bel lo.r lo.x hb, fun b hb h1 _ h3 _ => ch.other b hb h3 h1⟩

end Go.Proofs.YtpbaobmegomfpabDoor

/-
  back.put, all cases.
-/
namespace Go.Proofs.YtpbaobmegomfpabDoor
open Go.RowKit Go.Maps Go.WideMaps
set_option linter.unusedVariables false
set_option linter.unusedSimpArgs false

/-- a statement was done, or not -/
def ExPost (w : World) (base X S gR : Nat) (G : Nat → Nat → Nat) (n : Nat) (r : Wd × Ans) (e : Ending) (w' : World) : Prop := e = .returned (ansV r.2.kind r.2.text) ∧ EndW w' base X S r.1 ∧ Below base w w' ∧ Rest w w' X S gR G n
theorem OwnD.ends {w : World} {base X S gR cR : Nat} {G C : Nat → Nat → Nat} {W : Wd} (h : OwnD w X S gR cR G C W) (lo : LoD base X S gR G W.ss.length) (hz : SzW W) : EndW w base X S W :=
  ⟨⟨_, h.box, h.wld hz, LoV.slc lo.r⟩, h.blk, lo.x, lo.s, fun k j v hk hj hv => by rw [h.cs k j hk hj] at hv; injection hv with hv; rw [← hv]; exact lo.v hk hj⟩
theorem ExPost.same {w w' : World} {base X S gR cR : Nat} {G C : Nat → Nat → Nat} {W : Wd} {k : Int} {t : ByteArray} (h : OwnD w X S gR cR G C W) (lo : LoD base X S gR G W.ss.length) (hz : SzW W) (hb : base ≤ w.heap.size) {e : Ending} (he : e = .returned (ansV k t)) (b : Below w.heap.size w w') {n : Nat} : ExPost w base X S gR G n (W, ⟨k, t⟩) e w' :=
  ⟨he, (h.kept b).ends lo hz, b.mono hb, fun c hc _ _ _ _ => b.block c hc⟩
theorem ExPost.done {w w' : World} {base X S gR n : Nat} {G : Nat → Nat → Nat} {W : Wd} {e : Ending} (h : DonePost w base X S gR G n W e w') : ExPost w base X S gR G n (W, ok') e w' := h

/-- no list and no session lies in an answer's block -/
theorem RowTo.out_ {w : World} {g t n : Nat} {xs : List Value} (h : RowTo w g t n xs) {j : Nat} (hj : n ≤ j) : w.cell? ⟨g, j, none⟩ = none := by
  obtain ⟨cur, hh, hs, hx⟩ := h
  unfold World.cell?
  simp only [hh]
  show cur[j]? = _
  exact Array.getElem?_eq_none (by omega)
theorem RowTo.type {w : World} {g t n t' n' : Nat} {xs ys : List Value} (h : RowTo w g t n xs) (k : RowTo w g t' n' ys) : t = t' := by
  obtain ⟨cur, hh, _⟩ := h
  obtain ⟨cur', hk, _⟩ := k
  rw [hh] at hk
  injection hk with hk
  injection hk
theorem Lst.off {w w' : World} {B R : Nat} {v : Value} {l : PL} {x y : Int} {s : ByteArray} (hR : RowTo w R 30 3 [.int .i64 x, .string s, .int .i64 y]) (h : Lst w B v l) (hk : ∀ b, b ≠ R → w'.heap[b]? = w.heap[b]?) : Lst w' B v l := by
  refine ⟨h.form, h.bytes, h.sizes, fun hn => ?_, h.nil⟩
  obtain ⟨b, off, c, e, hb, hc⟩ := h.cells hn
  have hne : b ≠ R := by
    rintro rfl
    obtain ⟨h1, h2⟩ := hc 0 hn
    rw [Nat.zero_mul, Nat.add_zero] at h1 h2
    have r0 := hR.cell (j := 0) (by simp)
    have r2 := hR.cell (j := 2) (by simp)
    simp only [List.getElem_cons_zero, List.getElem_cons_succ] at r0 r2
    rcases Nat.lt_or_ge off 3 with ho | ho
    · obtain rfl | rfl | rfl : off = 0 ∨ off = 1 ∨ off = 2 := by omega
      · rw [r0] at h1; cases h1
      · rw [r2] at h2; cases h2
      · rw [r2] at h1; cases h1
    · rw [hR.out_ ho] at h1; cases h1
  exact ⟨b, off, c, e, hb, fun i hi => ⟨(World.cell?_of_block (hk b hne)).trans (hc i hi).1, (World.cell?_of_block (hk b hne)).trans (hc i hi).2⟩⟩
theorem EndW.off {w w' : World} {base X S R : Nat} {W : Wd} {x y : Int} {s : ByteArray} (h : EndW w base X S W) (hR : RowTo w R 30 3 [.int .i64 x, .string s, .int .i64 y]) (hs : w'.heap.size = w.heap.size) (hk : ∀ b, b ≠ R → w'.heap[b]? = w.heap[b]?) : EndW w' base X S W := by
  obtain ⟨r, hbox, ⟨hr, hss⟩, hlr⟩ := h.box
  have hX : X ≠ R := by rintro rfl; exact absurd (hbox.type hR) (by decide)
  have hS : S ≠ R := by intro e; have k := h.blk; rw [e] at k; exact absurd (k.type hR) (by decide)
  refine ⟨⟨r, hbox.same (hk X hX), ⟨?_, ?_⟩, hlr⟩, h.blk.same (hk S hS), h.loX, h.loS, fun k j v hk' hj hv => h.los k j v hk' hj ((World.cell?_of_block (hk S hS)).symm.trans hv)⟩
  · rw [hs]; exact hr.off hR hk
  · rw [hs]
    refine ⟨hss.form, hss.bytes, fun hn => ?_⟩
    obtain ⟨b, off, c, e, hb, hc⟩ := hss.cells hn
    refine ⟨b, off, c, e, hb, fun i hi => ?_⟩
    obtain ⟨v1, v2, v3, v4, q⟩ := hc i hi
    have hbS : b = S := by unfold slc at e; injection e with e; injection e with e; injection e with e; exact e.symm
    have cs : ∀ j, w'.cell? ⟨b, j, none⟩ = w.cell? ⟨b, j, none⟩ := fun j => World.cell?_of_block (hk b (by rw [hbS]; exact hS))
    exact ⟨v1, v2, v3, v4, (cs _).trans q.c0, (cs _).trans q.c1, (cs _).trans q.c2, (cs _).trans q.c3, (cs _).trans q.c4, q.l1.off hR hk, q.l2.off hR hk, q.l3.off hR hk, q.l4.off hR hk⟩
/-- a caller that lays the answer in a block of its own -/
theorem ExPost.laid {w w0 wB : World} {base X S gR n R : Nat} {G : Nat → Nat → Nat} {r : Wd × Ans} {e : Ending} {x y : Int} {s : ByteArray} (h : ExPost w0 base X S gR G n r e wB) (b : Below w.heap.size w w0) (hb : base ≤ w.heap.size) (hw : w.heap.size ≤ R)
    (hR : RowTo wB R 30 3 [.int .i64 x, .string s, .int .i64 y]) (p1 p2 p3 : Value) :
    ExPost w base X S gR G n r (.returned (ansV r.2.kind r.2.text)) (((wB.setCell ⟨R, 0, none⟩ p1).setCell ⟨R, 1, none⟩ p2).setCell ⟨R, 2, none⟩ p3) := by
  obtain ⟨_, h2, h3, h4⟩ := h
  have hk : ∀ c, c ≠ R → (((wB.setCell ⟨R, 0, none⟩ p1).setCell ⟨R, 1, none⟩ p2).setCell ⟨R, 2, none⟩ p3).heap[c]? = wB.heap[c]? := fun c hc => by
    rw [Below.heap_setCell _ _ _ _ hc, Below.heap_setCell _ _ _ _ hc, Below.heap_setCell _ _ _ _ hc]
  have hsz : (((wB.setCell ⟨R, 0, none⟩ p1).setCell ⟨R, 1, none⟩ p2).setCell ⟨R, 2, none⟩ p3).heap.size = wB.heap.size := by simp [World.setCell]
  refine ⟨rfl, h2.off hR hsz hk, ?_, fun c hc a1 a2 a3 a4 => ?_⟩
  · exact ((((b.mono hb).trans h3).setCell (by show base ≤ R; omega) _).setCell (by show base ≤ R; omega) _).setCell (by show base ≤ R; omega) _
  · rw [hk c (by omega), h4 c (by have := b.size; omega) a1 a2 a3 a4]
    exact b.block c hc

theorem cnt_fnd : ∀ {l : PL} {key : ByteArray}, 1 ≤ cntL l key → fndL l key = true
  | [], _, h => by simp [cntL] at h
  | p :: l, key, h => by
    rw [cntL_cons] at h
    have ih := cnt_fnd (l := l) (key := key)
    unfold fndL at ih ⊢
    cases e : eqB p.1 key
    · rw [e] at h
      simp only [atL, e]
      exact ih (by simpa using h)
    · simp only [atL, e]
      rfl

theorem put_any (base X S gR cR : Nat) (G C : Nat → Nat → Nat) (W : Wd) (i : Nat) (key val : ByteArray) (w : World) (h : OwnD w X S gR cR G C W) (lo : LoD base X S gR G W.ss.length) (hw : WorldOk W) (hb : base ≤ w.heap.size) (hi : i < W.ss.length) (hkz : key.size ≤ 8) (hvz : val.size ≤ 60) (hst : W.ss[i].st ≠ 2) :
    Calls Tryd.prog 45 #[.pointer (some ⟨X, 0, none⟩), .int .i64 i, .agg #[.int .i64 10, .string key, .string val]] w (ExPost w base X S gR G W.ss.length (did1 W i 10 key val)) := by
  have hz := worldOk_sz hw
  have hrw := (pairsB_rising (hw.sess i hi).wr).1
  have hrr := (pairsB_rising hw.rows).1
  have hd : did1 W i 10 key val = (if heldB W.ss i key = true then (W, no' tHeld)
     else if fndL (allL W) key = false ∧ 100 ≤ (allL W).length then (W, no' tFull)
     else if W.ss[i].st = 1 then (W.put i { W.ss[i] with wr := insL W.ss[i].wr key val }, ok')
     else (⟨insL W.rows key val, W.ss⟩, ok')) := by
    unfold did1
    simp only [getD_at hi, plus_ins hrw, plus_ins hrr]
    rw [if_neg (fun hh => hst hh.1)]
    simp
  rw [hd]
  have hcn := held_cnt hw hi key
  by_cases h1 : heldB W.ss i key = true
  · rw [if_pos h1]
    exact (put_held base X S gR cR G C W i key val w h lo hw hb hi hkz hvz h1).mono fun e w' hh => ExPost.same h lo hz hb hh.1 hh.2
  rw [if_neg h1]
  rw [Bool.not_eq_true] at h1
  rw [h1] at hcn
  cases ho : fndL W.ss[i].wr key
  · have hc0 : cntL (W.ss.flatMap (·.wr)) key = 0 := by
      rw [ho] at hcn
      simp at hcn
      exact hcn
    by_cases h2 : fndL (allL W) key = false ∧ 100 ≤ (allL W).length
    · rw [if_pos h2]
      exact (put_full_none base X S gR cR G C W i key val w h lo hw hb hi hkz hvz ho hc0 h2.1 h2.2).mono fun e w' hh => ExPost.same h lo hz hb hh.1 hh.2
    rw [if_neg h2]
    cases hf : fndL (allL W) key
    · have hfl : (allL W).length < 100 := by
        rcases Nat.lt_or_ge (allL W).length 100 with hh | hh
        · exact hh
        · exact absurd ⟨hf, hh⟩ h2
      by_cases h3 : W.ss[i].st = 1
      · rw [if_pos h3]
        exact (put_wr_new base X S gR cR G C W i key val w h lo hw hb hi hkz hvz ho hc0 hf hfl h3).mono fun e w' hh => ExPost.done hh
      · rw [if_neg h3]
        exact (put_row_new base X S gR cR G C W i key val w h lo hw hb hi hkz hvz ho hc0 hf hfl h3).mono fun e w' hh => ExPost.done hh
    · by_cases h3 : W.ss[i].st = 1
      · rw [if_pos h3]
        exact (put_wr_is base X S gR cR G C W i key val w h lo hw hb hi hkz hvz ho hc0 hf h3).mono fun e w' hh => ExPost.done hh
      · rw [if_neg h3]
        exact (put_row_is base X S gR cR G C W i key val w h lo hw hb hi hkz hvz ho hc0 hf h3).mono fun e w' hh => ExPost.done hh
  · have hf : fndL (allL W) key = true := by
      cases hf : fndL (allL W) key
      · exfalso
        have h5 := allF_fnd (R := W.rows) (k := key) hrr (W.ss.flatMap (·.wr))
        rw [show allF W.rows (W.ss.flatMap (·.wr)) = allL W from rfl, hf] at h5
        have h6 : 1 ≤ cntL (W.ss.flatMap (·.wr)) key := Nat.le_trans ((some_cnt hrw).2 ho) (cnt_one hi)
        have h7 : fndL (W.ss.flatMap (·.wr)) key = true := cnt_fnd h6
        rw [h7] at h5
        simp at h5
      · rfl
    rw [if_neg (fun hh => by rw [hf] at hh; cases hh.1)]
    by_cases h3 : W.ss[i].st = 1
    · rw [if_pos h3]
      exact (put_wr_own base X S gR cR G C W i key val w h lo hw hb hi hkz hvz ho hf h3).mono fun e w' hh => ExPost.done hh
    · exfalso
      have h8 := (hw.sess i hi).tx h3
      rw [h8] at ho
      cases ho

end Go.Proofs.YtpbaobmegomfpabDoor

/-
  Walks of back.end.
-/
namespace Go.Proofs.YtpbaobmegomfpabDoor
open Go.RowKit
set_option linter.unusedVariables false
set_option linter.unusedSimpArgs false
set_option maxRecDepth 100000

set_option maxHeartbeats 1000000 in
theorem end_no (w : World) (p q : Addr) (k : Int) (hc : w.cell? p = some (.int .i64 0)) :
    Calls Tryd.prog 40 #[.pointer (some q), .pointer (some p), .int .i64 k] w fun e w' => e = .returned (ansV 4 tNoTx) ∧ Below w.heap.size w w' := by
  have hp := World.block_lt_of_cell? w _ hc
  go_enter Tryd.func40, Tryd.ntmps40
  go_wp2_with fail
  refine (failure_any tNoTx _).mono ?_
  rintro e w9 ⟨rfl, hb9⟩
  have X9 := (RowTo.whole w #[.int .i64 0, .string ⟨#[]⟩, .int .i64 0] 30).below hb9 (by simp)
  have r0 := X9.cell (j := 0) (by simp)
  have r1 := X9.cell (j := 1) (by simp)
  have r2 := X9.cell (j := 2) (by simp)
  have s0 := X9.frozen 0
  have s1 := X9.frozen 1
  have s2 := X9.frozen 2
  simp only [List.getElem_cons_zero, List.getElem_cons_succ] at r0 r1 r2
  have B9 := Lib.hid (bel_add' ((Below.refl w.heap.size w).alloc (Nat.le_refl _) _) hb9 (by simp))
  clear X9 hb9
  unfold ansV
  go_wp2
  refine bodyPost_ret (v := .agg #[.int .i64 4, .string tNoTx, .int .i64 0]) (by simp [results, Tryd.results40, go_sem, r0, r1, r2]) rfl ⟨rfl, ?_⟩
  exact ((B9.out.setCell (by simp) _).setCell (by simp) _).setCell (by simp) _

set_option maxHeartbeats 2000000 in
theorem end_back (base X S gR cR : Nat) (G C : Nat → Nat → Nat) (W : Wd) (i : Nat) (k : Int) (w : World) (h : OwnD w X S gR cR G C W) (lo : LoD base X S gR G W.ss.length) (hz : SzW W) (hb : base ≤ w.heap.size) (hi : i < W.ss.length) (hst : W.ss[i].st ≠ 0) (hk : ¬ (k = 2 ∧ W.ss[i].st = 1)) :
    Calls Tryd.prog 40 #[.pointer (some ⟨X, 0, none⟩), .pointer (some ⟨S, i * 5, none⟩), .int .i64 k] w (DonePost w base X S gR G W.ss.length (W.put i { W.ss[i] with st := 0, set := W.ss[i].sav, sav := [], wr := [] })) := by
  have c0 := h.st i hi
  have c3 : w.cell? ⟨S, i * 5 + 3, none⟩ = some (.slice (some ⟨G i 2, 0, none⟩) W.ss[i].sav.length (C i 2)) := h.cs i 2 hi (by omega)
  have hSw := h.blk.lt
  have f0 := h.blk.frozen (i * 5)
  have f1 := h.blk.frozen (i * 5 + 1)
  have f3 := h.blk.frozen (i * 5 + 3)
  have f4 := h.blk.frozen (i * 5 + 4)
  obtain ⟨u1, d1⟩ := h.blk.any (j := i * 5 + 1) (by omega)
  obtain ⟨u4, d4⟩ := h.blk.any (j := i * 5 + 4) (by omega)
  have e0 : (W.ss[i].st == 0) = false := beq_eq_false_iff_ne.2 hst
  have hcase : (k == 2) = false ∨ ((k == 2) = true ∧ (W.ss[i].st == 1) = false) := by
    by_cases h2 : k = 2
    · exact .inr ⟨beq_iff_eq.2 h2, beq_eq_false_iff_ne.2 (fun h1 => hk ⟨h2, h1⟩)⟩
    · exact .inl (beq_eq_false_iff_ne.2 h2)
  have H := Lib.hid h
  have HZ := Lib.hid hz
  clear h hst hk
  rcases hcase with hk | ⟨hk, hk1⟩
  all_goals
    go_enter Tryd.func40, Tryd.ntmps40
    go_wp2_with fail
    have ch1 := (((((Chs.refl w S).setS (j := i * 5 + 1) (.slice (some ⟨G i 2, 0, none⟩) W.ss[i].sav.length (C i 2))).setS (j := i * 5) (.int .i64 0)).setS (j := i * 5 + 3) (.slice none 0 0)).setS (j := i * 5 + 4) (.slice none 0 0)).alloc hSw (.cells #[.int .i64 0, .string ⟨#[]⟩, .int .i64 0] 30)
    have X0 : RowTo (((((w.setCell ⟨S, i * 5 + 1, none⟩ (.slice (some ⟨G i 2, 0, none⟩) W.ss[i].sav.length (C i 2))).setCell ⟨S, i * 5, none⟩ (.int .i64 0)).setCell ⟨S, i * 5 + 3, none⟩ (.slice none 0 0)).setCell ⟨S, i * 5 + 4, none⟩ (.slice none 0 0)).alloc (.cells #[.int .i64 0, .string ⟨#[]⟩, .int .i64 0] 30)) w.heap.size 30 3 [.int .i64 0, .string ⟨#[]⟩, .int .i64 0] := by
      have := RowTo.whole ((((w.setCell ⟨S, i * 5 + 1, none⟩ (.slice (some ⟨G i 2, 0, none⟩) W.ss[i].sav.length (C i 2))).setCell ⟨S, i * 5, none⟩ (.int .i64 0)).setCell ⟨S, i * 5 + 3, none⟩ (.slice none 0 0)).setCell ⟨S, i * 5 + 4, none⟩ (.slice none 0 0)) #[.int .i64 0, .string ⟨#[]⟩, .int .i64 0] 30
      simpa [World.setCell] using this
    refine (done_any _).mono ?_
    rintro e w3 ⟨rfl, hy3⟩
    have ch3 := ch1.below hy3 ch1.size hSw
    have X3 := X0.below hy3 X0.lt
    have r0 := X3.cell (j := 0) (by simp)
    have r1 := X3.cell (j := 1) (by simp)
    have r2 := X3.cell (j := 2) (by simp)
    have s0 := X3.frozen 0
    have s1 := X3.frozen 1
    have s2 := X3.frozen 2
    simp only [List.getElem_cons_zero, List.getElem_cons_succ] at r0 r1 r2
    have HC3 := Lib.hid ch3
    clear ch1 ch3 X0 X3 hy3
    unfold ansV
    go_wp2
    refine bodyPost_ret (v := .agg #[.int .i64 1, .string ⟨#[]⟩, .int .i64 0]) (by simp [results, Tryd.results40, go_sem, r0, r1, r2]) rfl ?_
    have ch := ((HC3.out.setN (p := ⟨w.heap.size, 0, none⟩) (Nat.le_refl _) hSw (.int .i64 1)).setN (p := ⟨w.heap.size, 1, none⟩) (Nat.le_refl _) hSw (.string ⟨#[]⟩)).setN (p := ⟨w.heap.size, 2, none⟩) (Nat.le_refl _) hSw (.int .i64 0)
    refine ⟨rfl, ?_, ch.bel lo.s hb, fun b hb _ h2 _ _ => ch.other b hb h2⟩
    have hh := H.out
    have hzz := HZ.out
    have hrow := (((hh.blk.hit (j := i * 5 + 1) (.slice (some ⟨G i 2, 0, none⟩) W.ss[i].sav.length (C i 2))).hit (j := i * 5) (.int .i64 0)).hit (j := i * 5 + 3) (.slice none 0 0)).hit (j := i * 5 + 4) (.slice none 0 0)
    refine hh.turned lo ?_ (v3 := .slice none 0 0) (v4 := .slice none 0 0) hzz hi ch hrow (fun k j hk hj => ?_) ?_ ?_ ?_ ?_ ?_ (hh.li_kept hzz hi (j := 2) (by omega) ch) (hh.li_kept hzz hi (j := 1) (by omega) ch) (Lst.none_ _ _) (Lst.none_ _ _)
    · exact ⟨lo.v hi (by omega), lo.v hi (by omega), LoV.non _ _ _, LoV.non _ _ _⟩
    · rw [cell_off _ (by omega), cell_off _ (by omega), cell_off _ (by omega), cell_off _ (by omega)]
    · rw [cell_off _ (by omega), cell_off _ (by omega)]; exact cell_put (hh.blk.hit _) (by omega) _
    · rw [cell_off _ (by omega), cell_off _ (by omega), cell_off _ (by omega)]; exact cell_put hh.blk (by omega) _
    · rw [cell_off _ (by omega), cell_off _ (by omega), cell_off _ (by omega), cell_off _ (by omega)]; exact hh.cs i 1 hi (by omega)
    · rw [cell_off _ (by omega)]; exact cell_put ((hh.blk.hit _).hit _) (by omega) _
    · exact cell_put (((hh.blk.hit _).hit _).hit _) (by omega) _
end Go.Proofs.YtpbaobmegomfpabDoor

