/-
  Plain mathematics: a statement leaves a world that may be (P2.1, P2.2).
-/
import Derived.Test.YtpbaobmegomfpabBackPut
namespace Go.Proofs.Ytpbaobmegomfpab
open Go.RowKit
set_option linter.unusedVariables false

theorem fnd_append (l m : PL) (k : ByteArray) : fndL (l ++ m) k = (fndL l k || fndL m k) := by
  induction l with
  | nil => simp [fndL, atL]
  | cons p l ih =>
    unfold fndL at ih ⊢
    rw [List.cons_append]
    cases e : eqB p.1 k
    · rw [atL_no e, atL_no e]; exact ih
    · rw [atL_yes e, atL_yes e]; simp
theorem fnd_flat (ss : List Sess) (k : ByteArray) : fndL (ss.flatMap (·.wr)) k = ss.any (fun s => fndL s.wr k) := by
  induction ss with
  | nil => simp [fndL, atL]
  | cons s ss ih => rw [List.flatMap_cons, fnd_append, ih]; simp
theorem fnd_all {W : Wd} (h : risingB W.rows = true) (k : ByteArray) : fndL (allL W) k = (fndL W.rows k || W.ss.any (fun s => fndL s.wr k)) := by
  unfold allL; rw [allF_fnd h, fnd_flat]
theorem any_get {ss : List Sess} {f : Sess → Bool} : ss.any f = true ↔ ∃ k, ∃ hk : k < ss.length, f ss[k] = true := by
  rw [List.any_eq_true]
  constructor
  · rintro ⟨s, hs, h⟩
    obtain ⟨k, hk, rfl⟩ := List.getElem_of_mem hs
    exact ⟨k, hk, h⟩
  · rintro ⟨k, hk, h⟩; exact ⟨_, List.getElem_mem hk, h⟩
theorem plusF_up {R : PL} (h : risingB R = true) : ∀ l : PL, risingB (plusF R l) = true := by
  intro l
  unfold plusF
  induction l generalizing R with
  | nil => exact h
  | cons p l ih => rw [List.foldl_cons]; exact ih (by rw [plus_ins h]; exact ins_rising h)
theorem plusF_fnd {R : PL} {k : ByteArray} (h : risingB R = true) : ∀ l : PL, fndL (plusF R l) k = (fndL R k || fndL l k) := by
  intro l
  unfold plusF
  induction l generalizing R with
  | nil => simp [fndL, atL]
  | cons p l ih =>
    rw [List.foldl_cons, ih (by rw [plus_ins h]; exact ins_rising h), plus_ins h, fnd_ins h]
    have : fndL (p :: l) k = (eqB p.1 k || fndL l k) := by
      unfold fndL
      cases e : eqB p.1 k
      · rw [atL_no e]; simp
      · rw [atL_yes e]; simp
    rw [this]
    cases eqB p.1 k <;> cases fndL R k <;> simp
theorem plusF_mem {q : ByteArray × ByteArray} : ∀ {l R : PL}, q ∈ plusF R l → q ∈ R ∨ q ∈ l
  | [], R, h => .inl h
  | p :: l, R, h => by
    unfold plusF at h
    rw [List.foldl_cons] at h
    rcases plusF_mem (l := l) (R := plusL R p.1 p.2) h with h | h
    · rcases plusL_mem h with h | h
      · exact .inr (by rw [h]; simp)
      · exact .inl h
    · exact .inr (by simp [h])
theorem pairsB_mk {l : PL} {most : Nat} {kind : Int} (h1 : risingB l = true) (h2 : l.length ≤ most) (h3 : ∀ p ∈ l, checkE kind p.1 p.2 = 0) : pairsB l most kind = true := by
  unfold pairsB
  rw [h1, decide_eq_true h2, Bool.and_true, Bool.and_true, List.all_eq_true]
  exact fun p hp => decide_eq_true (h3 p hp)
theorem pairsB_nil (most : Nat) (kind : Int) : pairsB [] most kind = true := pairsB_mk rfl (Nat.zero_le _) (fun _ h => by cases h)
/-- one pair more where there is room -/
theorem pairsB_plus {l : PL} {most : Nat} {kind : Int} {key val : ByteArray} (h : pairsB l most kind = true) (hc : checkE kind key val = 0) (hr : fndL l key = true ∨ l.length < most) : pairsB (plusL l key val) most kind = true := by
  obtain ⟨h1, h2, h3⟩ := pairsB_rising h
  rw [plus_ins h1]
  refine pairsB_mk (ins_rising h1) ?_ (fun p hp => ?_)
  · rw [ins_length h1]
    rcases hr with hr | hr
    · unfold fndL at hr; rw [if_pos hr]; exact h2
    · split <;> omega
  · rcases ins_mem hp with rfl | hp
    · exact hc
    · exact h3 p hp
theorem fnd_plus {l : PL} {k v k' : ByteArray} (h : risingB l = true) : fndL (plusL l k v) k' = (eqB k k' || fndL l k') := by rw [plus_ins h, fnd_ins h]

section
variable {W : Wd} {i : Nat} {s' : Sess}
theorem wput_len (W : Wd) (i : Nat) (s' : Sess) : (W.put i s').ss.length = W.ss.length := by unfold Wd.put; simp
theorem wput_get (hi : i < W.ss.length) {k : Nat} (hk : k < (W.put i s').ss.length) : (W.put i s').ss[k] = if i = k then s' else W.ss[k]'(by rw [wput_len] at hk; exact hk) := by
  simp only [Wd.put]
  rw [List.getElem_set]
theorem held_put (hi : i < W.ss.length) (hs : ∀ k, fndL s'.wr k = true → fndL W.ss[i].wr k = true) {me : Int} {key : ByteArray} (h : heldB W.ss me key = false) : heldB (W.put i s').ss me key = false := by
  refine heldB_no fun k hk hf => Classical.byContradiction fun hne => ?_
  rw [wput_get hi hk] at hf
  have hk' : k < W.ss.length := by rw [wput_len] at hk; exact hk
  have : (atL W.ss[k].wr key).isSome = true := by
    by_cases e : i = k
    · subst e; rw [if_pos rfl] at hf; exact hs key hf
    · rw [if_neg e] at hf; exact hf
  rw [heldB_yes hk' this hne] at h; cases h
theorem any_put (hi : i < W.ss.length) {key : ByteArray} (h : (W.put i s').ss.any (fun s => fndL s.wr key) = true) : fndL s'.wr key = true ∨ W.ss.any (fun s => fndL s.wr key) = true := by
  obtain ⟨k, hk, hf⟩ := any_get.1 h
  rw [wput_get hi hk] at hf
  have hk' : k < W.ss.length := by rw [wput_len] at hk; exact hk
  by_cases e : i = k
  · rw [if_pos e] at hf; exact .inl hf
  · rw [if_neg e] at hf; exact .inr (any_get.2 ⟨k, hk', hf⟩)
theorem all_len {W' : Wd} (h : WorldOk W) (hr : risingB W'.rows = true) (hf : ∀ k, fndL (allL W') k = true → fndL (allL W) k = true) : (allL W').length ≤ 100 :=
  Nat.le_trans (sub_len (all_rising h) (allF_rising hr _) (fun p hp => hf p.1 (fnd_of_mem hp))) h.all
theorem all_more {W' : Wd} (h : WorldOk W) (hr : risingB W'.rows = true) {key : ByteArray} (hn : ¬ (fndL (allL W) key = false ∧ 100 ≤ (allL W).length)) (hf : ∀ k, fndL (allL W') k = true → eqB key k = true ∨ fndL (allL W) k = true) : (allL W').length ≤ 100 := by
  have h1 := sub_len (R := insL (allL W) key ⟨#[]⟩) (ins_rising (all_rising h)) (allF_rising hr (W'.ss.flatMap (·.wr))) (fun p hp => by
    rw [fnd_ins (all_rising h)]
    rcases hf p.1 (fnd_of_mem hp) with h | h
    · rw [h]; rfl
    · rw [h]; simp)
  rw [ins_length (all_rising h)] at h1
  have h2 := h.all
  have h3 : (allL W').length = (allF W'.rows (W'.ss.flatMap (·.wr))).length := rfl
  cases e : fndL (allL W) key
  · unfold fndL at e
    rw [e] at h1
    have h4 : ¬ 100 ≤ (allL W).length := fun hh => hn ⟨e, hh⟩
    simp at h1
    omega
  · unfold fndL at e
    rw [e] at h1
    simp at h1
    omega
/-- session i has turned, and its Writes are no more than they were -/
theorem wput_ok (h : WorldOk W) (hi : i < W.ss.length) (hs : SessOk s') (hw : ∀ p ∈ s'.wr, p ∈ W.ss[i].wr) : WorldOk (W.put i s') := by
  have hf : ∀ k, fndL s'.wr k = true → fndL W.ss[i].wr k = true := fun k hk => by
    obtain ⟨v, hv⟩ := Option.isSome_iff_exists.1 hk
    exact atL_of_mem (hw _ (atL_mem hv))
  refine ⟨h.rows, by rw [wput_len]; exact h.many, fun k hk => ?_, fun k hk p hp => ?_, ?_⟩
  · rw [wput_get hi hk]
    split
    · exact hs
    · exact h.sess k _
  · have hk' : k < W.ss.length := by rw [wput_len] at hk; exact hk
    rw [wput_get hi hk] at hp
    refine held_put hi hf (h.apart k hk' p ?_)
    by_cases e : i = k
    · subst e; rw [if_pos rfl] at hp; exact hw p hp
    · rw [if_neg e] at hp; exact hp
  · have hr := (pairsB_rising h.rows).1
    refine all_len h hr fun k hk => ?_
    rw [fnd_all (W := W.put i s') hr] at hk
    rw [fnd_all hr]
    rw [Bool.or_eq_true] at hk ⊢
    rcases hk with hk | hk
    · exact .inl hk
    · right
      rcases any_put hi hk with h1 | h1
      · exact any_get.2 ⟨i, hi, hf k h1⟩
      · exact h1
/-- the session that a statement stores a row in -/
theorem put_wr_ok (h : WorldOk W) (hi : i < W.ss.length) {key val : ByteArray} (hst : W.ss[i].st = 1) (hc : checkE 10 key val = 0) (hh : heldB W.ss i key = false) (hn : ¬ (fndL (allL W) key = false ∧ 100 ≤ (allL W).length)) :
    WorldOk (W.put i { W.ss[i] with wr := plusL W.ss[i].wr key val }) := by
  have hs := h.sess i hi
  have hrw := (pairsB_rising hs.wr).1
  have hr := (pairsB_rising h.rows).1
  refine ⟨h.rows, by rw [wput_len]; exact h.many, fun k hk => ?_, fun k hk p hp => ?_, ?_⟩
  · rw [wput_get hi hk]
    split
    · exact ⟨hs.lo, hs.hi, hs.set, hs.prep, hs.sav, pairsB_plus hs.wr hc (room_wr h hi hn), hs.idle, fun hne => absurd hst hne⟩
    · exact h.sess k _
  · have hk' : k < W.ss.length := by rw [wput_len] at hk; exact hk
    rw [wput_get hi hk] at hp
    refine heldB_no fun m hm hf => Classical.byContradiction fun hne => ?_
    have hm' : m < W.ss.length := by rw [wput_len] at hm; exact hm
    rw [wput_get hi hm] at hf
    by_cases e : i = k
    · subst e
      rw [if_pos rfl] at hp
      rw [if_neg (by omega)] at hf
      rw [plus_ins hrw] at hp
      rcases ins_mem hp with rfl | hp
      · rw [heldB_yes hm' hf hne] at hh; cases hh
      · have := h.apart i hi p hp
        rw [heldB_yes hm' hf hne] at this; cases this
    · rw [if_neg e] at hp
      have hap := h.apart k hk' p hp
      by_cases e2 : i = m
      · subst e2
        rw [if_pos rfl] at hf
        have hf : fndL (plusL W.ss[i].wr key val) p.1 = true := hf
        rw [fnd_plus hrw, Bool.or_eq_true] at hf
        rcases hf with hf | hf
        · rw [eqB_iff.1 hf, heldB_yes hk' (atL_of_mem hp) (by omega)] at hh; cases hh
        · rw [heldB_yes hi hf hne] at hap; cases hap
      · rw [if_neg e2] at hf
        rw [heldB_yes hm' hf hne] at hap; cases hap
  · refine all_more h hr hn fun k hk => ?_
    rw [fnd_all (W := W.put i _) hr, Bool.or_eq_true] at hk
    rw [fnd_all hr, Bool.or_eq_true]
    rcases hk with hk | hk
    · exact .inr (.inl hk)
    · rcases any_put hi hk with h1 | h1
      · have h1 : fndL (plusL W.ss[i].wr key val) k = true := h1
        rw [fnd_plus hrw, Bool.or_eq_true] at h1
        rcases h1 with h1 | h1
        · exact .inl h1
        · exact .inr (.inr (any_get.2 ⟨i, hi, h1⟩))
      · exact .inr (.inr h1)
theorem put_row_ok (h : WorldOk W) {key val : ByteArray} (hc : checkE 10 key val = 0) (hn : ¬ (fndL (allL W) key = false ∧ 100 ≤ (allL W).length)) : WorldOk ⟨plusL W.rows key val, W.ss⟩ := by
  have hr := (pairsB_rising h.rows).1
  have hp := pairsB_plus h.rows hc (room_rows h hn)
  have hr' := (pairsB_rising hp).1
  refine ⟨hp, h.many, h.sess, h.apart, all_more h hr' hn fun k hk => ?_⟩
  rw [fnd_all (W := ⟨plusL W.rows key val, W.ss⟩) hr', Bool.or_eq_true] at hk
  rw [fnd_all hr, Bool.or_eq_true]
  rcases hk with hk | hk
  · have hk : fndL (plusL W.rows key val) k = true := hk
    rw [fnd_plus hr, Bool.or_eq_true] at hk
    rcases hk with hk | hk
    · exact .inl hk
    · exact .inr (.inl hk)
  · exact .inr (.inr hk)
theorem rows_put_len (R : PL) (W : Wd) (i : Nat) (s' : Sess) : (⟨R, W.ss.set i s'⟩ : Wd).ss.length = W.ss.length := by simp
theorem commit_ok (h : WorldOk W) (hi : i < W.ss.length) : WorldOk ⟨plusF W.rows W.ss[i].wr, W.ss.set i { W.ss[i] with st := 0, sav := [], wr := [] }⟩ := by
  have hs := h.sess i hi
  have hr := (pairsB_rising h.rows).1
  have hr' := plusF_up hr W.ss[i].wr
  have hq := wput_ok (s' := { W.ss[i] with st := 0, sav := [], wr := [] }) h hi ⟨Int.le_refl _, (by show (0 : Int) ≤ 2; decide), hs.set, hs.prep, pairsB_nil _ _, pairsB_nil _ _, fun _ => rfl, fun _ => rfl⟩ (fun p hp => by cases hp)
  have hall : ∀ k, fndL (allL ⟨plusF W.rows W.ss[i].wr, W.ss.set i { W.ss[i] with st := 0, sav := [], wr := [] }⟩) k = true → fndL (allL W) k = true := fun k hk => by
    rw [fnd_all (W := ⟨plusF W.rows W.ss[i].wr, _⟩) hr', Bool.or_eq_true] at hk
    rw [fnd_all hr, Bool.or_eq_true]
    rcases hk with hk | hk
    · have hk : fndL (plusF W.rows W.ss[i].wr) k = true := hk
      rw [plusF_fnd hr, Bool.or_eq_true] at hk
      rcases hk with hk | hk
      · exact .inl hk
      · exact .inr (any_get.2 ⟨i, hi, hk⟩)
    · right
      rcases any_put (W := W) (s' := { W.ss[i] with st := 0, sav := [], wr := [] }) hi hk with h1 | h1
      · cases h1
      · exact h1
  refine ⟨pairsB_mk hr' ?_ (fun p hp => ?_), hq.many, hq.sess, hq.apart, all_len h hr' hall⟩
  · have := sub_len (all_rising h) hr' (fun p hp => by
      have hf := fnd_of_mem hp
      rw [plusF_fnd hr, Bool.or_eq_true] at hf
      rw [fnd_all hr, Bool.or_eq_true]
      rcases hf with hf | hf
      · exact .inl hf
      · exact .inr (any_get.2 ⟨i, hi, hf⟩))
    have := h.all
    show (plusF W.rows W.ss[i].wr).length ≤ 100
    omega
  · rcases plusF_mem hp with hp | hp
    · exact (pairsB_rising h.rows).2.2 p hp
    · exact (pairsB_rising hs.wr).2.2 p hp

/-- a world that may be, with as many sessions -/
def Fine (W : Wd) (r : Wd × Ans) : Prop := WorldOk r.1 ∧ r.1.ss.length = W.ss.length
theorem fine_ite {c : Prop} [Decidable c] {a b : Wd × Ans} (ha : c → Fine W a) (hb : ¬ c → Fine W b) : Fine W (if c then a else b) := by
  by_cases h : c
  · rw [if_pos h]; exact ha h
  · rw [if_neg h]; exact hb h
theorem did1_ok (h : WorldOk W) (hi : i < W.ss.length) {k : Int} {key val : ByteArray} (hc : checkE k key val = 0) : Fine W (did1 W i k key val) := by
  have hs := h.sess i hi
  have e : W.at i = W.ss[i] := by unfold Wd.at; rw [List.getD_eq_getElem?_getD, List.getElem?_eq_getElem hi]; rfl
  have same : ∀ a, Fine W (W, a) := fun a => ⟨h, rfl⟩
  unfold did1
  simp only
  rw [e]
  refine fine_ite (fun _ => same _) (fun hfail => ?_)
  refine fine_ite (fun _ => fine_ite (fun _ => ?_) (fun _ => same _)) (fun _ => ?_)
  · exact ⟨wput_ok h hi ⟨(by show (0 : Int) ≤ 1; decide), (by show (1 : Int) ≤ 2; decide), hs.set, hs.prep, hs.set, hs.wr, (fun hh => absurd hh (by show ¬ (1 : Int) = 0; decide)), fun hh => absurd rfl hh⟩ (fun p hp => hp), wput_len _ _ _⟩
  refine fine_ite (fun _ => fine_ite (fun _ => same _) (fun _ => fine_ite (fun _ => ?_) (fun _ => ?_))) (fun _ => ?_)
  · exact ⟨commit_ok h hi, by simp⟩
  · exact ⟨wput_ok h hi ⟨Int.le_refl _, (by show (0 : Int) ≤ 2; decide), hs.sav, hs.prep, pairsB_nil _ _, pairsB_nil _ _, fun _ => rfl, fun _ => rfl⟩ (fun p hp => by cases hp), wput_len _ _ _⟩
  refine fine_ite (fun _ => fine_ite (fun _ => ?_) (fun _ => same _)) (fun _ => ?_)
  · exact ⟨wput_ok h hi ⟨hs.lo, hs.hi, pairsB_nil _ _, pairsB_nil _ _, hs.sav, hs.wr, hs.idle, hs.tx⟩ (fun p hp => hp), wput_len _ _ _⟩
  refine fine_ite (fun _ => same _) (fun _ => fine_ite (fun _ => same _) (fun _ => ?_))
  refine fine_ite (fun h9 => fine_ite (fun _ => same _) (fun hn => ?_)) (fun _ => ?_)
  · subst h9
    refine ⟨wput_ok h hi ⟨hs.lo, hs.hi, pairsB_plus hs.set hc ?_, hs.prep, hs.sav, hs.wr, hs.idle, hs.tx⟩ (fun p hp => hp), wput_len _ _ _⟩
    cases e : fndL W.ss[i].set key
    · exact .inr (Nat.lt_of_not_le fun hh => hn ⟨e, hh⟩)
    · exact .inl rfl
  refine fine_ite (fun h10 => fine_ite (fun _ => same _) (fun hh => fine_ite (fun _ => same _) (fun hn => fine_ite (fun h1 => ?_) (fun _ => ?_)))) (fun _ => ?_)
  · subst h10
    exact ⟨put_wr_ok h hi h1 hc (by simpa using hh) hn, wput_len _ _ _⟩
  · subst h10
    exact ⟨put_row_ok h hc hn, rfl⟩
  refine fine_ite (fun h11 => fine_ite (fun _ => same _) (fun hn => ?_)) (fun _ => same _)
  subst h11
  refine ⟨wput_ok h hi ⟨hs.lo, hs.hi, hs.set, pairsB_plus hs.prep hc ?_, hs.sav, hs.wr, hs.idle, hs.tx⟩ (fun p hp => hp), wput_len _ _ _⟩
  cases e : fndL W.ss[i].prep key
  · exact .inr (Nat.lt_of_not_le fun hh => hn ⟨e, hh⟩)
  · exact .inl rfl
/-- what was prepared is a statement -/
theorem prep_stmt {l : PL} (h : pairsB l 6 11 = true) {key t : ByteArray} (ha : atL l key = some t) : readE t = 0 ∧ checkE (kindN (cutA t)) (cutA (cutB t)) (cutB (cutB t)) = 0 ∧ (kindN (cutA t) = 6 ∨ kindN (cutA t) = 7 ∨ kindN (cutA t) = 10) := by
  have hc := (pairsB_rising h).2.2 _ (atL_mem ha)
  have hv : prepB t = true := by
    unfold checkE at hc
    rw [if_neg (by decide)] at hc
    split at hc
    · rename_i hh
      rw [Bool.and_eq_true] at hh
      have := hh.2
      unfold valueB at this
      rwa [if_pos rfl] at this
    · cases hc
  rw [prepB_read, Bool.and_eq_true, decide_eq_true_eq, decide_eq_true_eq] at hv
  exact ⟨hv.1, (text_read hv.1).1, hv.2⟩
theorem didM_ok (h : WorldOk W) (hi : i < W.ss.length) {k : Int} {key val : ByteArray} (hc : checkE k key val = 0) : Fine W (didM W i k key val) := by
  have hs := h.sess i hi
  have e : W.at i = W.ss[i] := by unfold Wd.at; rw [List.getD_eq_getElem?_getD, List.getElem?_eq_getElem hi]; rfl
  unfold didM
  simp only [e]
  split
  · split
    · exact ⟨h, rfl⟩
    split
    · exact ⟨h, rfl⟩
    · rename_i t ht
      exact did1_ok h hi (prep_stmt hs.prep ht).2.1
  · exact did1_ok h hi hc
theorem doM_ok (h : WorldOk W) (hi : i < W.ss.length) {k : Int} {key val : ByteArray} (hc : checkE k key val = 0) : Fine W (doM W i k key val) := by
  obtain ⟨h1, h2⟩ := didM_ok h hi hc
  unfold doM
  simp only
  split
  · have hi' : i < (didM W i k key val).1.ss.length := by omega
    have e : (didM W i k key val).1.at i = (didM W i k key val).1.ss[i] := by unfold Wd.at; rw [List.getD_eq_getElem?_getD, List.getElem?_eq_getElem hi']; rfl
    have hs := h1.sess i hi'
    rw [e]
    exact ⟨wput_ok h1 hi' ⟨(by show (0 : Int) ≤ 2; decide), (by show (2 : Int) ≤ 2; decide), hs.set, hs.prep, hs.sav, pairsB_nil _ _, (fun hh => absurd hh (by show ¬ (2 : Int) = 0; decide)), fun _ => rfl⟩ (fun p hp => by cases hp), by rw [wput_len]; exact h2⟩
  · exact ⟨h1, h2⟩
end
end Go.Proofs.Ytpbaobmegomfpab
