/-
  Texts of the proof, one behind the other: PoolM2, PoolM3.
-/
import Derived.Test.YtpbaobmegomfpacGreatDoorM19
set_option linter.unusedVariables false
set_option linter.unusedSimpArgs false
set_option maxRecDepth 100000
open List renaming getElem_toArray → gTA, getElem_cons_zero → gCZ, getElem_cons_succ → gCS, setIfInBounds_toArray → sTA, set_cons_zero → sCZ, set_cons_succ → sCS
open Nat renaming le_refl → nL
namespace Go.Proofs.YtpbaobmegomfpacGreatDoor
open Go.RowKit
theorem waits_set : ∀ {l : List Cl} {c : Nat} {x : Cl} (h : c < l.length), waits (l.set c x) + l[c].wait.length = waits l + x.wait.length
 | a :: l, 0, x, _ => by simp [waits]; omega
 | a :: l, c + 1, x, h => by
  have := waits_set (l := l) (c := c) (x := x) (by simpa using h)
  simp only [waits, sCS, List.map_cons, List.sum_cons, gCS] at this ⊢
  omega
theorem bare_set : ∀ {l : List Cl} {c : Nat} {x : Cl} (h : c < l.length), bare (l.set c x) + l[c].srv.isNone.toNat = bare l + x.srv.isNone.toNat
 | a :: l, 0, x, _ => by
  simp only [bare, sCZ, List.countP_cons, gCZ]
  cases a.srv.isNone <;> cases x.srv.isNone <;> simp
 | a :: l, c + 1, x, h => by
  have := bare_set (l := l) (c := c) (x := x) (by simpa using h)
  simp only [bare, sCS, List.countP_cons, gCS] at this ⊢
  omega
section
variable {E : Type} {o : Ops E} {mode : Int} {m : Mach E}
theorem get_lt {c : Nat} (h : c < m.cl.length) : m.get c = m.cl[c] := by
 unfold Mach.get; rw [List.getD_eq_getElem?_getD, List.getElem?_eq_getElem h]; rfl
theorem get_ge {c : Nat} (h : m.cl.length ≤ c) : m.get c = Cl.new := by
 unfold Mach.get; rw [List.getD_eq_getElem?_getD, List.getElem?_eq_none h]; rfl
theorem getD_set {α : Type} (l : List α) (c d : Nat) (x z : α) : (l.set c x).getD d z = if c = d ∧ c < l.length then x else l.getD d z := by
 rw [List.getD_eq_getElem?_getD, List.getD_eq_getElem?_getD, List.getElem?_set]
 by_cases h : c = d
 ·subst h
  by_cases h2 : c < l.length
  ·simp [h2]
  ·simp [h2]
 ·simp [h]
theorem get_set {c d : Nat} {x : Cl} (h : c < m.cl.length) : (m.set c x).get d = if c = d then x else m.get d := by
 unfold Mach.get Mach.set; simp only; rw [getD_set]; by_cases e : c = d <;> simp [e, h]; intro hh; omega
theorem get_cl {c d : Nat} {x : Cl} (h : c < m.cl.length) : (m.cl.set c x).getD d Cl.new = if c = d then x else m.get d := get_set h
structure MOk (mode : Int) (m : Mach E) : Prop where
 n6 : m.cl.length = 6
 s6 : m.sent.length = 6
 line : ∀ c ∈ m.line, c < 6 ∧ (m.get c).srv = none ∧ (m.get c).wait ≠ [] ∧ readyB mode (m.get c) = false
 nodup : m.line.Nodup
 fine : ∀ c r, r ∈ (m.get c).wait → r.fine
 srv : ∀ c s, (m.get c).srv = some s → m.busy[s]? = some true
 inj : ∀ c d s, (m.get c).srv = some s → (m.get d).srv = some s → c = d
 own : ∀ s, m.busy[s]? = some true → ∃ c, (m.get c).srv = some s
theorem srv_lt {c s : Nat} (h : (m.get c).srv = some s) : c < m.cl.length := by
 rcases Nat.lt_or_ge c m.cl.length with h' | h'
 ·exact h'
 ·rw [get_ge h'] at h; cases h
theorem ready_wait {x : Cl} (h : readyB mode x = true) : ∃ r l, x.wait = r :: l ∧ (x.srv.isSome || refB mode r) = true := by
 unfold readyB at h
 cases hx : x.wait with
 | nil => rw [hx] at h; cases h
 | cons r l => rw [hx] at h; exact ⟨r, l, rfl, h⟩
theorem first_some {c : Nat} (h : m.firstR mode = some c) : c < 6 ∧ readyB mode (m.get c) = true := by
 unfold Mach.firstR at h
 have h2 := List.find?_some (p := fun c => readyB mode (m.get c)) h
 exact ⟨List.mem_range.1 (List.mem_of_find?_eq_some h), h2⟩
theorem first_none (h : m.firstR mode = none) {c : Nat} (hc : c < 6) : readyB mode (m.get c) = false := by
 unfold Mach.firstR at h
 have := List.find?_eq_none.1 h c (List.mem_range.2 hc)
 simpa using this
theorem MOk.turn (h : MOk mode m) {c : Nat} (hc : c < 6) {x : Cl} (hf : ∀ r ∈ x.wait, r.fine) (hs : x.srv = (m.get c).srv) (hl : c ∈ m.line → x.wait ≠ [] ∧ readyB mode x = false) : MOk mode (m.set c x) := by
 have hc' : c < m.cl.length := by rw [h.n6]; exact hc
 have hsrv : ∀ d, ((m.set c x).get d).srv = (m.get d).srv := fun d => by
  rw [get_set hc']
  by_cases e : c = d
  ·subst e; rw [if_pos rfl]; exact hs
  ·rw [if_neg e]
 refine ⟨by simp [Mach.set, h.n6], h.s6, fun d hd => ?_, h.nodup, fun d r hr => ?_, fun d s hd => ?_, fun d d' s h1 h2 => ?_, fun s hb => ?_⟩
 ·obtain ⟨h1, h2, h3, h4⟩ := h.line d hd
  refine ⟨h1, (hsrv d).trans h2, ?_⟩
  rw [get_set hc']
  by_cases e : c = d
  ·subst e; rw [if_pos rfl]; exact hl hd
  ·rw [if_neg e]; exact ⟨h3, h4⟩
 ·rw [get_set hc'] at hr
  by_cases e : c = d
  ·rw [if_pos e] at hr; exact hf r hr
  ·rw [if_neg e] at hr; exact h.fine d r hr
 ·rw [hsrv] at hd; exact h.srv d s hd
 ·rw [hsrv] at h1 h2; exact h.inj d d' s h1 h2
 ·obtain ⟨d, hd⟩ := h.own s hb
  exact ⟨d, (hsrv d).trans hd⟩
theorem MOk.same (h : MOk mode m) {m' : Mach E} (h1 : m'.cl = m.cl) (h2 : m'.busy = m.busy) (h3 : m'.line = m.line) (h4 : m'.sent.length = 6) : MOk mode m' := by
 have hg : ∀ c, m'.get c = m.get c := fun c => by unfold Mach.get; rw [h1]
 exact ⟨by rw [h1]; exact h.n6, h4, fun c hc => by rw [h3] at hc; rw [hg]; exact h.line c hc, by rw [h3]; exact h.nodup, fun c r hr => by rw [hg] at hr; exact h.fine c r hr,
  fun c s hs => by rw [hg] at hs; rw [h2]; exact h.srv c s hs, fun c d s a b => by rw [hg] at a b; exact h.inj c d s a b, fun s hs => by rw [h2] at hs; obtain ⟨c, hc⟩ := h.own s hs; exact ⟨c, by rw [hg]; exact hc⟩⟩
theorem MOk.tell (h : MOk mode m) (c : Nat) (a : Ans) (st : Int) : MOk mode (m.tell c a st) := h.same rfl rfl rfl (by simp [Mach.tell, h.s6])
theorem MOk.release (h : MOk mode m) {c s : Nat} (hs : (m.get c).srv = some s) : MOk mode (m.release o c s) := by
 have hc' := srv_lt hs
 have hc : c < 6 := by rw [h.n6] at hc'; exact hc'
 have hg : ∀ d, (m.release o c s).get d = if c = d then { m.get c with srv := none } else m.get d := fun d => get_set (m := m) hc'
 have hn : c ∉ m.line := fun hl => by have := (h.line c hl).2.1; rw [hs] at this; cases this
 refine ⟨by simp [Mach.release, h.n6], h.s6, fun d hd => ?_, h.nodup, fun d r hr => ?_, fun d s' hd => ?_, fun d d' s' h1 h2 => ?_, fun s' hb => ?_⟩
 ·have e : c ≠ d := fun e => hn (by rw [e]; exact hd)
  rw [hg, if_neg e]; exact h.line d hd
 ·rw [hg] at hr
  by_cases e : c = d
  ·rw [if_pos e] at hr; exact h.fine c r hr
  ·rw [if_neg e] at hr; exact h.fine d r hr
 ·rw [hg] at hd
  by_cases e : c = d
  ·rw [if_pos e] at hd; cases hd
  ·rw [if_neg e] at hd
   have hne : s ≠ s' := fun e' => e (h.inj c d s hs (by rw [e']; exact hd))
   show (m.busy.set s false)[s']? = _
   rw [List.getElem?_set_ne hne]; exact h.srv d s' hd
 ·rw [hg] at h1 h2
  by_cases e : c = d
  ·rw [if_pos e] at h1; cases h1
  ·by_cases e' : c = d'
   ·rw [if_pos e'] at h2; cases h2
   ·rw [if_neg e] at h1; rw [if_neg e'] at h2; exact h.inj d d' s' h1 h2
 ·have hb : (m.busy.set s false)[s']? = some true := hb
  by_cases e : s = s'
  ·subst e
   rw [List.getElem?_set_self (List.getElem?_eq_some_iff.1 (h.srv c s hs)).1] at hb; cases hb
  ·rw [List.getElem?_set_ne e] at hb
   obtain ⟨d, hd⟩ := h.own s' hb
   refine ⟨d, ?_⟩
   rw [hg, if_neg (fun e' => e (by rw [← e', hs] at hd; injection hd))]; exact hd
theorem release_mu (h : MOk mode m) {c s : Nat} (hs : (m.get c).srv = some s) : (m.release o c s).mu = m.mu + 1 := by
 have hc' := srv_lt hs
 have e := get_lt (m := m) hc'
 have h1 := waits_set (x := { m.get c with srv := none }) hc'
 have h2 := bare_set (x := { m.get c with srv := none }) hc'
 rw [← e] at h1 h2
 rw [hs] at h2
 simp only [Option.isNone_some, Option.isNone_none, Bool.toNat_false, Bool.toNat_true, Nat.add_zero] at h2
 simp only at h1
 unfold Mach.mu Mach.release
 simp only
 omega
theorem proc_line (h : MOk mode m) {c : Nat} (hr : readyB mode (m.get c) = true) : c ∉ m.line := fun hl => by
 have := (h.line c hl).2.2.2; rw [hr] at this; cases this
theorem MOk.proc (h : MOk mode m) {c : Nat} (hc : c < 6) (hr : readyB mode (m.get c) = true) : MOk mode (m.proc o mode c) ∧ (m.proc o mode c).mu < m.mu := by
 have hc' : c < m.cl.length := by rw [h.n6]; exact hc
 have hn := proc_line h hr
 obtain ⟨r, l, hw, hs⟩ := ready_wait hr
 have h1 : MOk mode (m.set c { m.get c with wait := l }) := h.turn hc (fun q hq => h.fine c q (by rw [hw]; exact List.mem_cons_of_mem _ hq)) rfl (fun hl => absurd hl hn)
 have e := get_lt (m := m) hc'
 have q1 := waits_set (x := { m.get c with wait := l }) hc'
 have q2 := bare_set (x := { m.get c with wait := l }) hc'
 rw [← e] at q1 q2
 rw [hw] at q1
 simp only [List.length_cons] at q1 q2
 have q3 : (m.set c { m.get c with wait := l }).mu + 2 = m.mu := by unfold Mach.mu Mach.set; simp only; omega
 unfold Mach.proc
 simp only [hw]
 by_cases hf : refB mode r = true
 ·rw [if_pos hf]
  exact ⟨h1.tell _ _ _, by show (m.set c { m.get c with wait := l }).mu < _; omega⟩
 ·rw [if_neg hf]
  have hsv : (m.get c).srv.isSome = true := by rw [Bool.or_eq_true] at hs; exact hs.resolve_right hf
  obtain ⟨s, hs⟩ := Option.isSome_iff_exists.1 hsv
  have h2 : MOk mode (Mach.tell { m.set c { m.get c with wait := l } with e := (o.exec m.e c ((m.get c).srv.getD 0) r).1, deeds := m.deeds ++ [⟨c, r, (o.exec m.e c ((m.get c).srv.getD 0) r).2.1, (o.exec m.e c ((m.get c).srv.getD 0) r).2.2⟩] } c (o.exec m.e c ((m.get c).srv.getD 0) r).2.1 (o.exec m.e c ((m.get c).srv.getD 0) r).2.2) :=
   h1.same rfl rfl rfl (by simp [Mach.tell, Mach.set, h.s6])
  split
  ·refine ⟨h2.release (by show ((m.set c _).get c).srv = _; rw [get_set hc', if_pos rfl, hs]; rfl), ?_⟩
   rw [release_mu h2 (by show ((m.set c _).get c).srv = _; rw [get_set hc', if_pos rfl, hs]; rfl)]
   show (m.set c { m.get c with wait := l }).mu + 1 < _; omega
  ·exact ⟨h2, by show (m.set c { m.get c with wait := l }).mu < _; omega⟩
theorem enqL_mem {l : List Nat} {c d : Nat} : d ∈ enqL m l c ↔ d ∈ l ∨ (d = c ∧ (m.get c).wait ≠ []) := by
 unfold enqL
 by_cases h : (m.get c).wait ≠ [] ∧ ¬ c ∈ l
 ·rw [if_pos h]; simp only [List.mem_append, List.mem_singleton]; exact ⟨fun hh => hh.imp_right fun e => ⟨e, h.1⟩, fun hh => hh.imp_right And.left⟩
 ·rw [if_neg h]
  refine ⟨.inl, fun hh => ?_⟩
  rcases hh with hh | ⟨rfl, hw⟩
  ·exact hh
  ·exact Classical.byContradiction fun hn => h ⟨hw, hn⟩
theorem enqL_nodup {l : List Nat} {c : Nat} (h : l.Nodup) : (enqL m l c).Nodup := by
 unfold enqL
 split
 ·rename_i hh
  rw [List.nodup_append]
  exact ⟨h, by simp, fun a ha b hb e => by rw [List.mem_singleton] at hb; subst hb; subst e; exact hh.2 ha⟩
 ·exact h
theorem enq_mem : ∀ {cs l : List Nat} {d : Nat}, d ∈ cs.foldl (enqL m) l ↔ d ∈ l ∨ (d ∈ cs ∧ (m.get d).wait ≠ [])
 | [], l, d => by simp
 | c :: cs, l, d => by
  rw [List.foldl_cons, enq_mem, enqL_mem]
  constructor
  ·rintro ((h | ⟨rfl, h⟩) | ⟨h1, h2⟩)
   ·exact .inl h
   ·exact .inr ⟨List.mem_cons_self, h⟩
   ·exact .inr ⟨List.mem_cons_of_mem _ h1, h2⟩
  ·rintro (h | ⟨h1, h2⟩)
   ·exact .inl (.inl h)
   ·rcases List.mem_cons.1 h1 with rfl | h1
    ·exact .inl (.inr ⟨rfl, h2⟩)
    ·exact .inr ⟨h1, h2⟩
theorem enq_nodup : ∀ {cs l : List Nat}, l.Nodup → (cs.foldl (enqL m) l).Nodup
 | [], l, h => h
 | c :: cs, l, h => by rw [List.foldl_cons]; exact enq_nodup (enqL_nodup h)
theorem MOk.enq (h : MOk mode m) (hr : m.firstR mode = none) : MOk mode m.enq := by
 refine ⟨h.n6, h.s6, fun d hd => ?_, enq_nodup h.nodup, h.fine, h.srv, h.inj, h.own⟩
 rcases enq_mem.1 hd with hd | ⟨h1, h2⟩
 ·exact h.line d hd
 ·have h6 := List.mem_range.1 h1
  have hn := first_none hr h6
  refine ⟨h6, ?_, h2, hn⟩
  cases hx : (m.get d).wait with
  | nil => exact absurd hx h2
  | cons r l =>
   unfold readyB at hn
   rw [hx] at hn
   simp only [Bool.or_eq_false_iff] at hn
   have : (m.get d).srv = none := Option.not_isSome_iff_eq_none.1 (by rw [hn.1]; simp)
   exact this
theorem idx_free {l : List Bool} (h : l.idxOf false < l.length) : l[l.idxOf false]? = some false := by
 rw [List.getElem?_eq_getElem h]
 have := List.getElem_idxOf h
 rw [this]
theorem MOk.assign (h : MOk mode m) (ht : (m.assign o).1 = true) : MOk mode (m.assign o).2 ∧ (m.assign o).2.mu < m.mu := by
 unfold Mach.assign at ht ⊢
 cases hl : m.line with
 | nil => rw [hl] at ht; cases ht
 | cons c l =>
  rw [hl] at ht
  simp only at ht ⊢
  by_cases hb : m.busy.idxOf false < m.busy.length
  ·rw [if_pos hb]
   obtain ⟨hc, hs, hw, hr⟩ := h.line c (by rw [hl]; exact List.mem_cons_self)
   have hc' : c < m.cl.length := by rw [h.n6]; exact hc
   have hnd := h.nodup
   rw [hl, List.nodup_cons] at hnd
   generalize hs0 : m.busy.idxOf false = s at *
   have hfree : m.busy[s]? = some false := by rw [← hs0]; exact idx_free (by rw [hs0]; exact hb)
   have hg : ∀ (q : Mach E) d, q.cl = m.cl.set c { m.get c with srv := some s } → q.get d = if c = d then { m.get c with srv := some s } else m.get d := fun q d hq => by
    unfold Mach.get; rw [hq]; exact get_cl hc'
   have hns : ∀ d, (m.get d).srv ≠ some s := fun d hd => by rw [h.srv d s hd] at hfree; cases hfree
   refine ⟨⟨by simp [h.n6], h.s6, fun d hd => ?_, hnd.2, fun d r hr => ?_, fun d s' hd => ?_, fun d d' s' h1 h2 => ?_, fun s' hb' => ?_⟩, ?_⟩
   ·have e : c ≠ d := fun e => hnd.1 (by rw [e]; exact hd)
    rw [hg _ d rfl, if_neg e]
    exact h.line d (by rw [hl]; exact List.mem_cons_of_mem _ hd)
   ·rw [hg _ d rfl] at hr
    by_cases e : c = d
    ·rw [if_pos e] at hr; exact h.fine c r hr
    ·rw [if_neg e] at hr; exact h.fine d r hr
   ·rw [hg _ d rfl] at hd
    by_cases e : c = d
    ·rw [if_pos e] at hd; injection hd with hd; subst hd
     show (m.busy.set s true)[s]? = _
     rw [List.getElem?_set_self hb]
    ·rw [if_neg e] at hd
     have hne : s ≠ s' := fun e' => hns d (by rw [e']; exact hd)
     show (m.busy.set s true)[s']? = _
     rw [List.getElem?_set_ne hne]; exact h.srv d s' hd
   ·rw [hg _ d rfl] at h1
    rw [hg _ d' rfl] at h2
    by_cases e : c = d <;> by_cases e' : c = d'
    ·rw [← e, ← e']
    ·rw [if_pos e] at h1; rw [if_neg e'] at h2; injection h1 with h1; exact absurd (by rw [h1]; exact h2) (hns d')
    ·rw [if_neg e] at h1; rw [if_pos e'] at h2; injection h2 with h2; exact absurd (by rw [h2]; exact h1) (hns d)
    ·rw [if_neg e] at h1; rw [if_neg e'] at h2; exact h.inj d d' s' h1 h2
   ·have hb' : (m.busy.set s true)[s']? = some true := hb'
    by_cases e : s = s'
    ·subst e
     exact ⟨c, by rw [hg _ c rfl, if_pos rfl]⟩
    ·rw [List.getElem?_set_ne e] at hb'
     obtain ⟨d, hd⟩ := h.own s' hb'
     exact ⟨d, by rw [hg _ d rfl, if_neg (fun e' => by rw [← e', hs] at hd; cases hd)]; exact hd⟩
   ·have e := get_lt (m := m) hc'
    have q1 := waits_set (x := { m.get c with srv := some s }) hc'
    have q2 := bare_set (x := { m.get c with srv := some s }) hc'
    rw [← e] at q1 q2
    rw [hs] at q2
    simp only [Option.isNone_some, Option.isNone_none, Bool.toNat_false, Bool.toNat_true, Nat.add_zero] at q2
    simp only at q1
    unfold Mach.mu
    simp only
    omega
  ·rw [if_neg hb] at ht; cases ht
theorem assign_no (h : (m.assign o).1 = false) : (m.assign o).2 = m := by
 unfold Mach.assign at h ⊢
 cases hl : m.line with
 | nil => rfl
 | cons c l =>
  rw [hl] at h
  simp only at h ⊢
  by_cases hb : m.busy.idxOf false < m.busy.length
  ·rw [if_pos hb] at h; cases h
  ·rw [if_neg hb]
theorem MOk.step (h : MOk mode m) : MOk mode (m.step o mode).2 ∧ ((m.step o mode).1 = true → (m.step o mode).2.mu < m.mu) := by
 unfold Mach.step
 cases hf : m.firstR mode with
 | some c =>
  obtain ⟨hc, hr⟩ := first_some hf
  have := h.proc (o := o) hc hr
  exact ⟨this.1, fun _ => this.2⟩
 | none =>
  have he := h.enq hf
  simp only
  cases ha : (m.enq.assign o).1 with
  | true => have := he.assign ha; exact ⟨this.1, fun _ => this.2⟩
  | false => rw [assign_no ha]; exact ⟨he, fun hh => by cases hh⟩
theorem iter_enough : ∀ (n k : Nat) (m : Mach E), MOk mode m → m.mu < n → m.mu < k → m.iter o mode n = m.iter o mode k
 | n + 1, k + 1, m, h, hn, hk => by
  simp only [Mach.iter]
  cases ht : (m.step o mode).1 with
  | false => simp
  | true =>
   have h1 := h.step (o := o)
   have h2 := h1.2 ht
   simp only [if_true]
   exact iter_enough n k _ h1.1 (by omega) (by omega)
theorem all_step (h : MOk mode m) (ht : (m.step o mode).1 = true) : m.all o mode = (m.step o mode).2.all o mode := by
 have h1 := h.step (o := o)
 have h2 := h1.2 ht
 unfold Mach.all
 rw [Mach.iter, if_pos ht]
 exact iter_enough _ _ _ h1.1 (by omega) (by omega)
theorem all_stop (ht : (m.step o mode).1 = false) : m.all o mode = (m.step o mode).2 := by
 unfold Mach.all
 rw [Mach.iter, if_neg (by rw [ht]; simp)]
theorem all_ind (P : Mach E → Prop) (Q : Mach E → Mach E → Prop) (hstep : ∀ m, MOk mode m → P m → (m.step o mode).1 = true → P (m.step o mode).2 ∧ ∀ r, Q (m.step o mode).2 r → Q m r) (hstop : ∀ m, MOk mode m → P m → (m.step o mode).1 = false → Q m (m.step o mode).2) :
  ∀ (n : Nat) (m : Mach E), m.mu ≤ n → MOk mode m → P m → Q m (m.all o mode)
 | 0, m, hn, h, hp => by
  cases ht : (m.step o mode).1 with
  | false => rw [all_stop ht]; exact hstop m h hp ht
  | true => have := (h.step (o := o)).2 ht; omega
 | n + 1, m, hn, h, hp => by
  cases ht : (m.step o mode).1 with
  | false => rw [all_stop ht]; exact hstop m h hp ht
  | true =>
   have h1 := h.step (o := o)
   have h2 := h1.2 ht
   have h3 := hstep m h hp ht
   rw [all_step h ht]
   exact h3.2 _ (all_ind P Q hstep hstop n _ (by omega) h1.1 h3.1)
theorem MOk.all (h : MOk mode m) : MOk mode (m.all o mode) :=
 all_ind (fun _ => True) (fun _ r => MOk mode r) (fun m h _ _ => ⟨trivial, fun r hr => hr⟩) (fun m h _ _ => (h.step (o := o)).1) _ m (nL _) h trivial
theorem MOk.leave (h : MOk mode m) {c : Nat} (hc : c < 6) : MOk mode (m.leave o c) := by
 have hc' : c < m.cl.length := by rw [h.n6]; exact hc
 have hg : ∀ d, (m.leave o c).get d = if c = d then Cl.new else m.get d := fun d => get_set (m := m) hc'
 have hm : ∀ d, d ∈ (m.leave o c).line ↔ d ∈ m.line ∧ d ≠ c := fun d => by
  show d ∈ m.line.filter _ ↔ _
  rw [List.mem_filter]; simp
 refine ⟨by simp [Mach.leave, h.n6], h.s6, fun d hd => ?_, h.nodup.filter _, fun d r hr => ?_, fun d s hd => ?_, fun d d' s h1 h2 => ?_, fun s hb => ?_⟩
 ·obtain ⟨h1, h2⟩ := (hm d).1 hd
  rw [hg, if_neg (fun e => h2 e.symm)]; exact h.line d h1
 ·rw [hg] at hr
  by_cases e : c = d
  ·rw [if_pos e] at hr; cases hr
  ·rw [if_neg e] at hr; exact h.fine d r hr
 ·rw [hg] at hd
  by_cases e : c = d
  ·rw [if_pos e] at hd; cases hd
  ·rw [if_neg e] at hd
   have := h.srv d s hd
   unfold Mach.leave
   simp only
   cases hx : (m.get c).srv with
   | none => exact this
   | some s' =>
    simp only
    rw [List.getElem?_set_ne (fun e' => e (h.inj c d s (by rw [hx, e']) hd))]; exact this
 ·rw [hg] at h1 h2
  by_cases e : c = d
  ·rw [if_pos e] at h1; cases h1
  ·by_cases e' : c = d'
   ·rw [if_pos e'] at h2; cases h2
   ·rw [if_neg e] at h1; rw [if_neg e'] at h2; exact h.inj d d' s h1 h2
 ·unfold Mach.leave at hb
  simp only at hb
  cases hx : (m.get c).srv with
  | none =>
   rw [hx] at hb
   obtain ⟨d, hd⟩ := h.own s hb
   exact ⟨d, by rw [hg, if_neg (fun e => by rw [← e, hx] at hd; cases hd)]; exact hd⟩
  | some s' =>
   rw [hx] at hb
   simp only at hb
   by_cases e : s' = s
   ·subst e
    rw [List.getElem?_set_self (List.getElem?_eq_some_iff.1 (h.srv c s' hx)).1] at hb; cases hb
   ·rw [List.getElem?_set_ne e] at hb
    obtain ⟨d, hd⟩ := h.own s hb
    exact ⟨d, by rw [hg, if_neg (fun e' => e (by rw [← e', hx] at hd; injection hd))]; exact hd⟩
theorem reqOf_fine (k : UInt8) (t : ByteArray) : (reqOf k t).fine := by
 unfold reqOf
 split
 ·rename_i h; exact .inr (text_read h.2).1
 ·exact .inl rfl
theorem fine_app {l : List Req} {r : Req} (h : ∀ q ∈ l, q.fine) (hr : r.fine) : ∀ q ∈ l ++ [r], q.fine := fun q hq => by
 rcases List.mem_append.1 hq with hq | hq
 ·exact h q hq
 ·rw [List.mem_singleton] at hq; rw [hq]; exact hr
theorem ready_app {x : Cl} {r : Req} {b : ByteArray} (hw : x.wait ≠ []) (hr : readyB mode x = false) : readyB mode { x with bytes := b, wait := x.wait ++ [r] } = false := by
 unfold readyB at hr ⊢
 cases hx : x.wait with
 | nil => exact absurd hx hw
 | cons q l => rw [hx] at hr; exact hr
theorem MOk.feed (h : MOk mode m) {c : Nat} (hc : c < 6) (n : Nat) : MOk mode (m.feed o mode n c) := by
 induction n generalizing m with
 | zero => exact h
 | succ n ih =>
  unfold Mach.feed
  cases hp : pull (m.get c).bytes with
  | none => exact h
  | some q =>
   obtain ⟨k, t, j⟩ := q
   simp only
   split
   ·exact h.all.leave hc
   ·refine ih (h.turn hc (fine_app (fun q hq => h.fine c q hq) (reqOf_fine k t)) rfl fun hl => ⟨by simp, ?_⟩)
    obtain ⟨_, _, h3, h4⟩ := h.line c hl
    exact ready_app h3 h4
theorem MOk.bytes (h : MOk mode m) {c : Nat} (hc : c < 6) (b : ByteArray) : MOk mode (m.set c { m.get c with bytes := b }) :=
 h.turn hc (fun r hr => h.fine c r hr) rfl fun hl => ⟨(h.line c hl).2.2.1, (h.line c hl).2.2.2⟩
theorem MOk.deliver (h : MOk mode m) {c : Nat} (hc : c < 6) (d : ByteArray) : MOk mode (m.deliver o mode c d) := (h.bytes hc _).feed hc _
theorem MOk.act (h : MOk mode m) {a : Act} (ha : actE a = 0) : MOk mode (m.act o mode a) := by
 have hc : a.c.toNat < 6 := by
  unfold actE at ha
  split at ha
  ·cases ha
  split at ha
  ·cases ha
  omega
 unfold Mach.act
 split
 ·exact (h.deliver hc _).all
 ·exact (h.leave hc).all
theorem actsE_cons {a : Act} {l : List Act} (h : actsE (a :: l) = 0) : actE a = 0 ∧ actsE l = 0 := by
 unfold actsE at h
 split at h
 ·rename_i hh; exact absurd h hh
 ·rename_i hh; exact ⟨Classical.byContradiction hh, h⟩
theorem MOk.run (h : MOk mode m) {l : List Act} (hl : actsE l = 0) : MOk mode (m.run o mode l) := by
 induction l generalizing m with
 | nil => exact h
 | cons a l ih => exact ih (h.act (actsE_cons hl).1) (actsE_cons hl).2
end
theorem start_ok {E : Type} (e : E) (n : Nat) (mode : Int) : MOk mode (Mach.start e n) := by
 have hg : ∀ c, (Mach.start e n).get c = Cl.new := fun c => by
  unfold Mach.get Mach.start
  simp only
  rw [List.getD_eq_getElem?_getD, List.getElem?_replicate]
  split <;> rfl
 refine ⟨by simp [Mach.start], by simp [Mach.start], (fun c hc => by cases hc), List.nodup_nil, (fun c r hr => by rw [hg] at hr; cases hr), (fun c s hs => by rw [hg] at hs; cases hs), (fun c d s h1 _ => by rw [hg] at h1; cases h1), fun s hs => ?_⟩
 have : (List.replicate n false)[s]? = some true := hs
 rw [List.getElem?_replicate] at this
 split at this <;> cases this
theorem at_lt {W : Wd} {i : Nat} (h : i < W.ss.length) : W.at i = W.ss[i] := by
 unfold Wd.at; rw [List.getD_eq_getElem?_getD, List.getElem?_eq_getElem h]; rfl
theorem put_self {W : Wd} {i : Nat} (h : i < W.ss.length) : (⟨W.rows, W.ss.set i (W.at i)⟩ : Wd) = W := by
 rw [at_lt h, List.set_getElem_self]
theorem any_own {W : Wd} {s : Nat} (h : s < W.ss.length) (key : ByteArray) : W.ss.any (fun x => fndL x.wr key) = (fndL (W.at s).wr key || heldB W.ss s key) := by
 rw [at_lt h]
 rw [Bool.eq_iff_iff, Bool.or_eq_true, any_get, heldB_iff]
 constructor
 ·rintro ⟨k, hk, hf⟩
  by_cases e : k = s
  ·subst e; exact .inl hf
  ·exact .inr ⟨k, hk, hf, by omega⟩
 ·rintro (hf | ⟨k, hk, hf, _⟩)
  ·exact ⟨s, h, hf⟩
  ·exact ⟨k, hk, hf⟩
structure Like (A B : Wd) (s c : Nat) : Prop where
 a : WorldOk A
 b : WorldOk B
 hs : s < A.ss.length
 hc : c < B.ss.length
 rows : A.rows = B.rows
 me : A.at s = B.at c
 held : ∀ key, heldB A.ss s key = heldB B.ss c key
section
variable {A B : Wd} {s c : Nat}
theorem Like.fnd (h : Like A B s c) (key : ByteArray) : fndL (allL A) key = fndL (allL B) key := by
 rw [fnd_all (pairsB_rising h.a.rows).1, fnd_all (pairsB_rising h.b.rows).1, any_own h.hs, any_own h.hc, h.rows, h.me, h.held]
theorem Like.len (h : Like A B s c) : (allL A).length = (allL B).length := by
 have h1 := sub_len (all_rising h.b) (all_rising h.a) (fun p hp => by rw [← h.fnd]; exact fnd_of_mem hp)
 have h2 := sub_len (all_rising h.a) (all_rising h.b) (fun p hp => by rw [h.fnd]; exact fnd_of_mem hp)
 omega
def Both (A B : Wd) (s c : Nat) (r q : Wd × Ans) : Prop := ∃ rows x a, r = (⟨rows, A.ss.set s x⟩, a) ∧ q = (⟨rows, B.ss.set c x⟩, a)
theorem both_ite {p : Prop} [Decidable p] {r r' q q' : Wd × Ans} (h1 : Both A B s c r q) (h2 : Both A B s c r' q') : Both A B s c (if p then r else r') (if p then q else q') := by
 by_cases h : p
 ·rw [if_pos h, if_pos h]; exact h1
 ·rw [if_neg h, if_neg h]; exact h2
theorem Like.same (h : Like A B s c) (a : Ans) : Both A B s c (A, a) (B, a) :=
 ⟨A.rows, A.at s, a, by rw [put_self h.hs], by rw [h.rows, h.me, put_self h.hc]⟩
theorem Like.put (h : Like A B s c) (x : Sess) (a : Ans) : Both A B s c (A.put s x, a) (B.put c x, a) := ⟨A.rows, x, a, rfl, by rw [h.rows]; rfl⟩
theorem Like.did1 (h : Like A B s c) (k : Int) (key val : ByteArray) : Both A B s c (did1 A s k key val) (did1 B c k key val) := by
 unfold Go.Proofs.YtpbaobmegomfpacGreatDoor.did1
 simp only
 rw [h.me, h.rows, h.held, h.fnd, h.len]
 have hr := h.rows
 refine both_ite (h.same _) ?_
 refine both_ite (both_ite (h.put _ _) (h.same _)) ?_
 refine both_ite (both_ite (h.same _) (both_ite ⟨_, _, _, rfl, rfl⟩ (h.put _ _))) ?_
 refine both_ite (both_ite (h.put _ _) (h.same _)) ?_
 refine both_ite (h.same _) ?_
 refine both_ite (h.same _) ?_
 refine both_ite (both_ite (h.same _) (h.put _ _)) ?_
 refine both_ite (both_ite (h.same _) (both_ite (h.same _) (both_ite (h.put _ _) ?_))) ?_
 ·refine ⟨plusL B.rows key val, A.at s, ok', ?_, ?_⟩
  ·rw [show A.ss.set s (A.at s) = A.ss by rw [at_lt h.hs, List.set_getElem_self]]
  ·rw [h.me, show B.ss.set c (B.at c) = B.ss by rw [at_lt h.hc, List.set_getElem_self]]
 exact both_ite (both_ite (h.same _) (h.put _ _)) (h.same _)
theorem Like.didM (h : Like A B s c) (k : Int) (key val : ByteArray) : Both A B s c (didM A s k key val) (didM B c k key val) := by
 unfold Go.Proofs.YtpbaobmegomfpacGreatDoor.didM
 rw [h.me]
 refine both_ite (both_ite (h.same _) ?_) (h.did1 _ _ _)
 cases atL (B.at c).prep key with
 | none => exact h.same _
 | some t => exact h.did1 _ _ _
theorem Like.doM (h : Like A B s c) (k : Int) (key val : ByteArray) : Both A B s c (doM A s k key val) (doM B c k key val) := by
 obtain ⟨rows, x, a, h1, h2⟩ := h.didM k key val
 have e1 : ∀ y, (⟨rows, A.ss.set s y⟩ : Wd).at s = y := fun y => by unfold Wd.at; simp only; rw [getD_set, if_pos ⟨rfl, h.hs⟩]
 have e2 : ∀ y, (⟨rows, B.ss.set c y⟩ : Wd).at c = y := fun y => by unfold Wd.at; simp only; rw [getD_set, if_pos ⟨rfl, h.hc⟩]
 unfold Go.Proofs.YtpbaobmegomfpacGreatDoor.doM
 simp only [h1, h2, e1, e2]
 refine both_ite ⟨rows, { x with st := 2, wr := [] }, a, ?_, ?_⟩ ⟨rows, x, a, rfl, rfl⟩
 ·simp [Wd.put]
 ·simp [Wd.put]
end
theorem doM_form {W : Wd} (h : WorldOk W) {i : Nat} (hi : i < W.ss.length) (k : Int) (key val : ByteArray) : ∃ rows x a, doM W i k key val = (⟨rows, W.ss.set i x⟩, a) := by
 obtain ⟨rows, x, a, h1, _⟩ := (Like.doM (A := W) (B := W) (s := i) (c := i) ⟨h, h, hi, hi, rfl, rfl, fun _ => rfl⟩ k key val)
 exact ⟨rows, x, a, h1⟩
theorem rising_ext : ∀ {l m : PL}, risingB l = true → risingB m = true → (∀ k, atL l k = atL m k) → l = m
 | [], [], _, _, _ => rfl
 | [], q :: m, _, _, h => by have := h q.1; rw [atL_yes (eqB_self _)] at this; cases this
 | p :: l, [], _, _, h => by have := h p.1; rw [atL_yes (eqB_self _)] at this; cases this
 | p :: l, q :: m, hl, hm, h => by
  have hp : ∀ {l : PL} {p : ByteArray × ByteArray}, risingB (p :: l) = true → ∀ k v, atL (p :: l) k = some v → p.1 = k ∨ ltB p.1 k = true := fun {l p} hl k v hk => by
   have := atL_mem hk
   rcases List.mem_cons.1 this with e | hm
   ·left; rw [← e]
   ·right; exact rising_head hl _ hm
  have e1 : p.1 = q.1 := by
   have a1 : atL (q :: m) p.1 = some p.2 := by rw [← h, atL_yes (eqB_self _)]
   have a2 : atL (p :: l) q.1 = some q.2 := by rw [h, atL_yes (eqB_self _)]
   rcases hp hm _ _ a1 with e | h1
   ·exact e.symm
   ·rcases hp hl _ _ a2 with e | h2
    ·exact e
    ·have := ltB_asymm h1; rw [h2] at this; cases this
  have e2 : p.2 = q.2 := by
   have a1 := h p.1
   rw [atL_yes (eqB_self _), atL_yes (by rw [e1]; exact eqB_self _)] at a1
   injection a1
  have e3 : l = m := rising_ext (rising_tail hl) (rising_tail hm) (fun k => by
   by_cases e : eqB p.1 k = true
   ·have e' := eqB_iff.1 e
    rw [atL_none (fun r hr => eqB_false.2 (fun x => by have := ltB_ne (rising_head hl r hr); exact this (by rw [e', x]))), atL_none (fun r hr => eqB_false.2 (fun x => by have := ltB_ne (rising_head hm r hr); exact this (by rw [← e1, e', x])))]
   ·have e : eqB p.1 k = false := by simpa using e
    have := h k
    rwa [atL_no e, atL_no (by rw [← e1]; exact e)] at this)
  rw [e3, Prod.ext e1 e2]
theorem pairB_iff {p q : ByteArray × ByteArray} : pairB p q = true ↔ p = q := by
 unfold pairB; rw [Bool.and_eq_true, eqB_iff, eqB_iff]
 exact ⟨fun h => Prod.ext h.1 h.2, fun h => by rw [h]; exact ⟨rfl, rfl⟩⟩
theorem without_mem {l o : PL} {p : ByteArray × ByteArray} : p ∈ without l o ↔ p ∈ l ∧ p ∉ o := by
 unfold without
 rw [List.mem_filter]
 simp only [Bool.not_eq_true', and_congr_right_iff]
 intro _
 rw [← Bool.not_eq_true, List.any_eq_true]
 exact ⟨fun h hp => h ⟨p, hp, pairB_iff.2 rfl⟩, fun h ⟨q, hq, e⟩ => h (by rw [← pairB_iff.1 e]; exact hq)⟩
theorem without_nil {l o : PL} : (without l o).length > 0 ↔ ∃ p ∈ l, p ∉ o := by
 rw [gt_iff_lt, List.length_pos_iff_exists_mem]
 exact ⟨fun ⟨p, hp⟩ => ⟨p, (without_mem.1 hp).1, (without_mem.1 hp).2⟩, fun ⟨p, h1, h2⟩ => ⟨p, without_mem.2 ⟨h1, h2⟩⟩⟩
theorem at_plus {l : PL} {k v k' : ByteArray} (h : risingB l = true) : atL (plusL l k v) k' = if eqB k k' then some v else atL l k' := by rw [plus_ins h, at_ins h]
theorem mem_at {T : PL} (h : risingB T = true) {p : ByteArray × ByteArray} (hp : p ∈ T) : atL T p.1 = some p.2 := by
 induction T with
 | nil => cases hp
 | cons q T ih =>
  rcases List.mem_cons.1 hp with rfl | hp
  ·exact atL_yes (eqB_self _)
  ·rw [atL_no (eqB_false.2 (ltB_ne (rising_head h p hp)))]; exact ih (rising_tail h) hp
theorem plusF_at {T : PL} (hT : risingB T = true) : ∀ {l cur : PL}, risingB cur = true → (∀ p ∈ cur, p ∈ T) → (∀ p ∈ l, p ∈ T) → ∀ k, atL (plusF cur l) k = if (atL cur k).isSome || fndL l k then atL T k else none
 | [], cur, hc, h1, _, k => by
  show atL cur k = _
  have : fndL [] k = false := rfl
  rw [this, Bool.or_false]
  cases h : atL cur k with
  | none => simp
  | some v => simp [mem_at hT (h1 _ (atL_mem h))]
 | p :: l, cur, hc, h1, h2, k => by
  have hp := h2 p List.mem_cons_self
  have e : plusF cur (p :: l) = plusF (plusL cur p.1 p.2) l := rfl
  rw [e, plusF_at hT (by rw [plus_ins hc]; exact ins_rising hc) (fun q hq => by
   rcases plusL_mem hq with rfl | hq
   ·exact hp
   ·exact h1 q hq) (fun q hq => h2 q (List.mem_cons_of_mem _ hq)), at_plus hc]
  have : fndL (p :: l) k = (eqB p.1 k || fndL l k) := by
   unfold fndL
   cases e : eqB p.1 k
   ·rw [atL_no e]; simp
   ·rw [atL_yes e]; simp
  rw [this]
  cases e : eqB p.1 k <;> simp
theorem plusF_whole {T cur : PL} (hT : risingB T = true) (hc : risingB cur = true) (h : ∀ p ∈ cur, p ∈ T) : plusF cur (without T cur) = T := by
 refine rising_ext (plusF_up hc _) hT fun k => ?_
 rw [plusF_at hT hc h (fun p hp => (without_mem.1 hp).1)]
 cases hk : atL T k with
 | none => split <;> rfl
 | some v =>
  have hm := atL_mem hk
  by_cases hin : (k, v) ∈ cur
  ·have := atL_of_mem hin; simp only at this; rw [this]; simp
  ·have := fnd_of_mem (without_mem.2 ⟨hm, hin⟩); simp only at this; rw [this]; simp
section
variable {w : Wd} {s : Nat}
theorem wput_at (hs : s < w.ss.length) (x : Sess) : (w.put s x).at s = x := by unfold Wd.at Wd.put; simp only; rw [getD_set, if_pos ⟨rfl, hs⟩]
theorem wput_put (x y : Sess) : (w.put s x).put s y = w.put s y := by unfold Wd.put; simp
theorem do_set (hs : s < w.ss.length) (h0 : (w.at s).st = 0) {key val : ByteArray} (hr : fndL (w.at s).set key = true ∨ (w.at s).set.length < 6) : (doM w s 9 key val).1 = w.put s { w.at s with set := plusL (w.at s).set key val } := by
 have : ¬ (fndL (w.at s).set key = false ∧ 6 ≤ (w.at s).set.length) := fun h => by
  rcases hr with hr | hr
  ·rw [hr] at h; cases h.1
  ·omega
 unfold doM didM did1
 simp [h0, this, ok']
theorem do_prep (hs : s < w.ss.length) (h0 : (w.at s).st = 0) {key val : ByteArray} (hr : fndL (w.at s).prep key = true ∨ (w.at s).prep.length < 6) : (doM w s 11 key val).1 = w.put s { w.at s with prep := plusL (w.at s).prep key val } := by
 have : ¬ (fndL (w.at s).prep key = false ∧ 6 ≤ (w.at s).prep.length) := fun h => by
  rcases hr with hr | hr
  ·rw [hr] at h; cases h.1
  ·omega
 unfold doM didM did1
 simp [h0, this, ok']
theorem room_T {T cur : PL} (hT : risingB T = true) (h6 : T.length ≤ 6) (hc : risingB cur = true) (h : ∀ p ∈ cur, p ∈ T) {p : ByteArray × ByteArray} (hp : p ∈ T) : fndL cur p.1 = true ∨ cur.length < 6 := by
 cases hf : fndL cur p.1
 ·right
  have := sub_less hT hc (fun q hq => fnd_of_mem (h q hq)) (fnd_of_mem hp) hf
  omega
 ·exact .inl rfl
theorem doW_set {T : PL} (hT : risingB T = true) (h6 : T.length ≤ 6) : ∀ {l : PL} {w : Wd} (hs : s < w.ss.length) (h0 : (w.at s).st = 0) (hr : risingB (w.at s).set = true) (h1 : ∀ p ∈ (w.at s).set, p ∈ T) (h2 : ∀ p ∈ l, p ∈ T), doW w s 9 l = w.put s { w.at s with set := plusF (w.at s).set l }
 | [], w, hs, h0, hr, h1, _ => by show w = _; exact (put_self hs).symm
 | p :: l, w, hs, h0, hr, h1, h2 => by
  have e : doW w s 9 (p :: l) = doW (doM w s 9 p.1 p.2).1 s 9 l := rfl
  have hp := h2 p List.mem_cons_self
  rw [e, do_set hs h0 (room_T hT h6 hr h1 hp), doW_set hT h6 (by rw [wput_len]; exact hs) (by rw [wput_at hs]; exact h0) (by rw [wput_at hs]; simp only; rw [plus_ins hr]; exact ins_rising hr) (by
   rw [wput_at hs]
   intro q hq
   rcases plusL_mem hq with rfl | hq
   ·exact hp
   ·exact h1 q hq) (fun q hq => h2 q (List.mem_cons_of_mem _ hq)), wput_at hs, wput_put]
  rfl
theorem doW_prep {T : PL} (hT : risingB T = true) (h6 : T.length ≤ 6) : ∀ {l : PL} {w : Wd} (hs : s < w.ss.length) (h0 : (w.at s).st = 0) (hr : risingB (w.at s).prep = true) (h1 : ∀ p ∈ (w.at s).prep, p ∈ T) (h2 : ∀ p ∈ l, p ∈ T), doW w s 11 l = w.put s { w.at s with prep := plusF (w.at s).prep l }
 | [], w, hs, h0, hr, h1, _ => by show w = _; exact (put_self hs).symm
 | p :: l, w, hs, h0, hr, h1, h2 => by
  have e : doW w s 11 (p :: l) = doW (doM w s 11 p.1 p.2).1 s 11 l := rfl
  have hp := h2 p List.mem_cons_self
  rw [e, do_prep hs h0 (room_T hT h6 hr h1 hp), doW_prep hT h6 (by rw [wput_len]; exact hs) (by rw [wput_at hs]; exact h0) (by rw [wput_at hs]; simp only; rw [plus_ins hr]; exact ins_rising hr) (by
   rw [wput_at hs]
   intro q hq
   rcases plusL_mem hq with rfl | hq
   ·exact hp
   ·exact h1 q hq) (fun q hq => h2 q (List.mem_cons_of_mem _ hq)), wput_at hs, wput_put]
  rfl
theorem restore_ok (h : WorldOk w) (hs : s < w.ss.length) (h0 : (w.at s).st = 0) {p : PL × PL} (hp1 : pairsB p.1 6 9 = true) (hp2 : pairsB p.2 6 11 = true) : restoreW w s p = w.put s ⟨0, p.1, p.2, [], []⟩ := by
 have hx := h.sess s hs
 rw [← at_lt hs] at hx
 obtain ⟨r1, l1, _⟩ := pairsB_rising hp1
 obtain ⟨r2, l2, _⟩ := pairsB_rising hp2
 have hsav := hx.idle h0
 have hwr := hx.tx (by omega)
 unfold restoreW
 simp only
 obtain ⟨x, hw1, hx0, hxs, hxp, hxv, hxw, hrs, hrp, hms, hmp⟩ : ∃ x : Sess, (if (without (w.at s).set p.1).length > 0 ∨ (without (w.at s).prep p.2).length > 0 then (doM w s 4 ⟨#[]⟩ ⟨#[]⟩).1 else w) = w.put s x ∧ x.st = 0 ∧ True ∧ True ∧ x.sav = [] ∧ x.wr = [] ∧ risingB x.set = true ∧ risingB x.prep = true ∧ (∀ q ∈ x.set, q ∈ p.1) ∧ (∀ q ∈ x.prep, q ∈ p.2) := by
  by_cases hc : (without (w.at s).set p.1).length > 0 ∨ (without (w.at s).prep p.2).length > 0
  ·rw [if_pos hc]
   refine ⟨{ w.at s with set := [], prep := [] }, ?_, h0, trivial, trivial, hsav, hwr, rfl, rfl, (fun q hq => by cases hq), (fun q hq => by cases hq)⟩
   unfold doM didM did1
   simp [h0, ok']
  ·rw [if_neg hc]
   have h1 : ∀ q ∈ (w.at s).set, q ∈ p.1 := fun q hq => Classical.byContradiction fun hn => hc (.inl (without_nil.2 ⟨q, hq, hn⟩))
   have h2 : ∀ q ∈ (w.at s).prep, q ∈ p.2 := fun q hq => Classical.byContradiction fun hn => hc (.inr (without_nil.2 ⟨q, hq, hn⟩))
   exact ⟨w.at s, (put_self hs).symm, h0, trivial, trivial, hsav, hwr, (pairsB_rising hx.set).1, (pairsB_rising hx.prep).1, h1, h2⟩
 rw [hw1, wput_at hs]
 rw [doW_set r1 l1 (by rw [wput_len]; exact hs) (by rw [wput_at hs]; exact hx0) (by rw [wput_at hs]; exact hrs) (by rw [wput_at hs]; exact hms) (fun q hq => (without_mem.1 hq).1), wput_at hs, wput_put, plusF_whole r1 hrs hms]
 rw [doW_prep r2 l2 (by rw [wput_len]; exact hs) (by rw [wput_at hs]; exact hx0) (by rw [wput_at hs]; exact hrp) (by rw [wput_at hs]; exact hmp) (fun q hq => (without_mem.1 hq).1), wput_at hs, wput_put]
 simp only
 rw [plusF_whole r2 hrp hmp, hx0, hxv, hxw]
end
end Go.Proofs.YtpbaobmegomfpacGreatDoor
