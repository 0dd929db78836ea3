/-
  Texts of the proof, one behind the other: HouseI, PoolW.
-/
import Derived.Test.YtpbaobmegomfpacGreatDoorM23
import Derived.Test.YtpbaobmegomfpacGreatDoorM21
import Derived.Test.YtpbaobmegomfpacGreatDoorM22
import Derived.Test.YtpbaobmegomfpacGreatDoorM20
set_option linter.unusedVariables false
set_option linter.unusedSimpArgs false
set_option maxRecDepth 100000
open List renaming getElem_toArray → gTA, getElem_cons_zero → gCZ, getElem_cons_succ → gCS, setIfInBounds_toArray → sTA, set_cons_zero → sCZ, set_cons_succ → sCS
open Nat renaming le_refl → nL
namespace Go.Proofs.YtpbaobmegomfpacGreatDoor
open Go.RowKit
def upd {α : Type} (f : Nat → α) (c : Nat) (v : α) : Nat → α := fun x => if x = c then v else f x
def Mach.b (m : Mach Wd) : Nat → ByteArray := fun c => (m.get c).bytes
def Mach.q (m : Mach Wd) : Nat → List Req := fun c => (m.get c).wait
abbrev JP := D → (Nat → ByteArray) → (Nat → List Req) → Prop
structure Kept (mode : Int) (J : JP) : Prop where
 one : ∀ d b q c r l, c < 6 → q c = r :: l → r.fine → J d b q → J (d.one mode c r) b (upd q c l)
 feed : ∀ d b q c k t j, c < 6 → pull (b c) = some (k, t, j) → k ≠ 88 → J d b q → J d (upd b c ((b c).extract j (b c).size)) (upd q c (q c ++ [reqOf k t]))
 leave : ∀ d b q c, c < 6 → J d b q → J ⟨d.w.put c Sess.zero, d.sent, d.deeds⟩ (upd b c ⟨#[]⟩) (upd q c [])
def Mach.has (m : Mach Wd) (J : JP) : Prop := J m.d m.b m.q
section
variable {mode : Int} {J : JP} {m : Mach Wd} {c : Nat}
theorem step_has (K1 : ∀ d b q c r l, c < 6 → q c = r :: l → r.fine → J d b q → J (d.one mode c r) b (upd q c l)) (h : MOk mode m) (hj : m.has J) : (m.step houseO mode).2.has J := by
 unfold Mach.step
 cases hf : m.firstR mode with
 | some x =>
  obtain ⟨hx, hr⟩ := first_some hf
  obtain ⟨r, l, hw, _⟩ := ready_wait hr
  have hc' : x < m.cl.length := by rw [h.n6]; exact hx
  have hg := fun d => proc_cl (mode := mode) hc' hw d
  have := K1 m.d m.b m.q x r l hx hw (h.fine x r (by rw [hw]; exact List.mem_cons_self)) hj
  show J (m.proc houseO mode x).d (m.proc houseO mode x).b (m.proc houseO mode x).q
  have e1 : (m.proc houseO mode x).b = m.b := by
   funext d; show ((m.proc houseO mode x).get d).bytes = (m.get d).bytes
   rw [hg]; by_cases e : x = d
   ·rw [if_pos e, e]
   ·rw [if_neg e]
  have e2 : (m.proc houseO mode x).q = upd m.q x l := by
   funext d; show ((m.proc houseO mode x).get d).wait = if d = x then l else (m.get d).wait
   rw [hg]; by_cases e : x = d
   ·rw [if_pos e, if_pos e.symm]
   ·rw [if_neg e, if_neg (fun e' => e e'.symm)]
  rw [proc_d hw, e1, e2]; exact this
 | none =>
  show Mach.has (m.enq.assign houseO).2 J
  unfold Mach.assign
  cases hl : m.enq.line with
  | nil => exact hj
  | cons c l =>
   simp only
   split
   ·have he : ∀ (q : Mach Wd) x d, q.cl = m.cl.set c { m.get c with srv := some x } → (q.get d).bytes = (m.get d).bytes ∧ (q.get d).wait = (m.get d).wait := fun q x d hq => by
     unfold Mach.get
     rw [hq, getD_set]
     by_cases e : c = d ∧ c < m.cl.length
     ·rw [if_pos e]; obtain ⟨rfl, _⟩ := e; exact ⟨rfl, rfl⟩
     ·rw [if_neg e]; exact ⟨rfl, rfl⟩
    have e1 : Mach.b { m.enq with line := l, busy := m.enq.busy.set (m.enq.busy.idxOf false) true, cl := m.enq.cl.set c { m.enq.get c with srv := some (m.enq.busy.idxOf false) }, e := houseO.grant m.enq.e c (m.enq.busy.idxOf false) } = m.b := funext fun d => (he _ _ d rfl).1
    have e2 : Mach.q { m.enq with line := l, busy := m.enq.busy.set (m.enq.busy.idxOf false) true, cl := m.enq.cl.set c { m.enq.get c with srv := some (m.enq.busy.idxOf false) }, e := houseO.grant m.enq.e c (m.enq.busy.idxOf false) } = m.q := funext fun d => (he _ _ d rfl).2
    unfold Mach.has
    rw [e1, e2]; exact hj
   ·exact hj
theorem all_has (K1 : ∀ d b q c r l, c < 6 → q c = r :: l → r.fine → J d b q → J (d.one mode c r) b (upd q c l)) (h : MOk mode m) (hj : m.has J) : (m.all houseO mode).has J :=
 all_ind (fun m => m.has J) (fun _ r => r.has J) (fun m h hj _ => ⟨step_has K1 h hj, fun r hr => hr⟩) (fun m h hj _ => step_has K1 h hj) _ m (nL _) h hj
theorem Kept.all (K : Kept mode J) (h : MOk mode m) (hj : m.has J) : (m.all houseO mode).has J := all_has K.one h hj
theorem set_b (hc : c < m.cl.length) (x : Cl) : (m.set c x).b = upd m.b c x.bytes := by
 funext d; show ((m.set c x).get d).bytes = if d = c then x.bytes else (m.get d).bytes
 rw [get_set hc]; by_cases e : c = d
 ·rw [if_pos e, if_pos e.symm]
 ·rw [if_neg e, if_neg (fun e' => e e'.symm)]
theorem set_q (hc : c < m.cl.length) (x : Cl) : (m.set c x).q = upd m.q c x.wait := by
 funext d; show ((m.set c x).get d).wait = if d = c then x.wait else (m.get d).wait
 rw [get_set hc]; by_cases e : c = d
 ·rw [if_pos e, if_pos e.symm]
 ·rw [if_neg e, if_neg (fun e' => e e'.symm)]
theorem upd_self {α : Type} (f : Nat → α) (c : Nat) : upd f c (f c) = f := by
 funext x; unfold upd; split
 ·rename_i h; rw [h]
 ·rfl
theorem Kept.leave' (K : Kept mode J) (h : MOk mode m) (hc : c < 6) (hj : m.has J) : (m.leave houseO c).has J := by
 have hc' : c < m.cl.length := by rw [h.n6]; exact hc
 have e1 : (m.leave houseO c).b = upd m.b c ⟨#[]⟩ := set_b (m := m) hc' Cl.new
 have e2 : (m.leave houseO c).q = upd m.q c [] := set_q (m := m) hc' Cl.new
 unfold Mach.has
 rw [e1, e2]
 exact K.leave m.d m.b m.q c hc hj
theorem Kept.feed' (K : Kept mode J) (h : MOk mode m) (hc : c < 6) (hj : m.has J) (n : Nat) : (m.feed houseO mode n c).has J := by
 induction n generalizing m with
 | zero => exact hj
 | succ n ih =>
  have hc' : c < m.cl.length := by rw [h.n6]; exact hc
  unfold Mach.feed
  cases hp : pull (m.get c).bytes with
  | none => exact hj
  | some q =>
   obtain ⟨k, t, j⟩ := q
   simp only
   split
   ·exact K.leave' h.all hc (K.all h hj)
   ·rename_i hk
    refine ih (h.turn hc (fine_app (fun q hq => h.fine c q hq) (reqOf_fine k t)) rfl fun hl => ⟨by simp, ?_⟩) ?_
    ·obtain ⟨_, _, h3, h4⟩ := h.line c hl
     exact ready_app h3 h4
    ·have := K.feed m.d m.b m.q c k t j hc hp hk hj
     unfold Mach.has
     rw [set_b hc', set_q hc']
     exact this
theorem act_lt {a : Act} (ha : actE a = 0) : a.c.toNat < 6 ∧ (a.c.toNat : Int) = a.c := by
 unfold actE at ha
 split at ha
 ·cases ha
 split at ha
 ·cases ha
 omega
theorem Kept.act (J : Nat → JP) (K : ∀ T, Kept mode (J T)) (hd : ∀ T d b q c data, c < 6 → J T d b q → J (T + 1) d (upd b c (b c ++ data)) q) (hcl : ∀ T d b q, J T d b q → J (T + 1) d b q) {T : Nat} (h : MOk mode m) (hj : m.has (J T)) {a : Act} (ha : actE a = 0) : (m.act houseO mode a).has (J (T + 1)) := by
 obtain ⟨hc, _⟩ := act_lt ha
 have hc' : a.c.toNat < m.cl.length := by rw [h.n6]; exact hc
 unfold Mach.act
 split
 ·refine (K _).all (h.deliver hc _) ?_
  unfold Mach.deliver
  refine (K _).feed' (h.bytes hc _) hc ?_ _
  unfold Mach.has
  rw [set_b hc', set_q hc']
  have := hd T m.d m.b m.q a.c.toNat a.data hc hj
  show J (T + 1) m.d (upd m.b a.c.toNat (m.b a.c.toNat ++ a.data)) (upd m.q a.c.toNat (m.q a.c.toNat))
  rw [upd_self]; exact this
 ·exact (K _).all (h.leave hc) ((K _).leave' h hc (hcl T _ _ _ hj))
end
section
variable {mode : Int} {m : Mach Wd}
theorem run_keeps {I : D → Prop} (h1 : ∀ d c r, c < 6 → r.fine → I d → I (d.one mode c r)) (h2 : ∀ d c, c < 6 → I d → I ⟨d.w.put c Sess.zero, d.sent, d.deeds⟩) : ∀ {l : List Act} {m : Mach Wd}, MOk mode m → I m.d → actsE l = 0 → I (m.run houseO mode l).d
 | [], m, _, hi, _ => hi
 | a :: l, m, h, hi, hl => by
  have K : ∀ T : Nat, Kept mode (fun d _ _ => I d) := fun _ => ⟨fun d b q c r l hc _ hr hi => h1 d c r hc hr hi, fun d b q c k t j _ _ _ hi => hi, fun d b q c hc hi => h2 d c hc hi⟩
  have := Kept.act (fun _ => fun d _ _ => I d) K (fun T d b q c data _ hi => hi) (fun T d b q hi => hi) (T := 0) h hi (actsE_cons hl).1
  exact run_keeps h1 h2 (l := l) (h.act (actsE_cons hl).1) this (actsE_cons hl).2
end
theorem one_w {mode : Int} {d : D} {c : Nat} {r : Req} : (d.one mode c r).w = if refB mode r then d.w else (doR d.w c r).1 := by
 unfold D.one; split <;> rfl
theorem one_deeds {mode : Int} {d : D} {c : Nat} {r : Req} : (d.one mode c r).deeds = if refB mode r then d.deeds else d.deeds ++ [⟨c, r, (doR d.w c r).2, ((doR d.w c r).1.at c).st⟩] := by
 unfold D.one; split <;> rfl
theorem fine_ok {mode : Int} {r : Req} (h : r.fine) (hr : ¬ refB mode r = true) : r.ok := by
 rcases h with e | e
 ·exact absurd (by rw [e]; rfl) hr
 ·exact e
def HOk (d : D) : Prop := WorldOk d.w ∧ d.w.ss.length = 6
theorem hok_one {mode : Int} {d : D} {c : Nat} {r : Req} (hc : c < 6) (hr : r.fine) (h : HOk d) : HOk (d.one mode c r) := by
 unfold HOk
 rw [one_w]
 split
 ·exact h
 ·rename_i hn
  have := doR_ok h.1 (i := c) (by rw [h.2]; exact hc) (fine_ok hr hn)
  exact ⟨this.1, this.2.trans h.2⟩
theorem hok_leave {d : D} {c : Nat} (hc : c < 6) (h : HOk d) : HOk ⟨d.w.put c Sess.zero, d.sent, d.deeds⟩ :=
 ⟨wput_ok h.1 (by rw [h.2]; exact hc) zero_ok (fun p hp => by cases hp), by show (d.w.put c _).ss.length = 6; rw [wput_len]; exact h.2⟩
theorem hok_start (n : Nat) : HOk (Mach.start houseStart n).d := ⟨zeros_ok (by omega), by simp [Mach.start, Mach.d, houseStart]⟩
def SetBy (ds : List Deed) (c : Nat) (p : ByteArray × ByteArray) : Prop := ∃ x ∈ ds, x.c = c ∧ x.r = ⟨9, p.1, p.2⟩ ∧ x.a.kind = 1
structure LeakI (d : D) : Prop where
 ok : HOk d
 set : ∀ c, c < 6 → ∀ p ∈ (d.w.at c).set, SetBy d.deeds c p
 sav : ∀ c, c < 6 → ∀ p ∈ (d.w.at c).sav, SetBy d.deeds c p
 got : ∀ i (hi : i < d.deeds.length), d.deeds[i].r.k = 6 → d.deeds[i].a.kind = 2 → SetBy (d.deeds.take i) d.deeds[i].c (d.deeds[i].r.key, d.deeds[i].a.text)
theorem SetBy.more {ds : List Deed} {c : Nat} {p : ByteArray × ByteArray} (h : SetBy ds c p) (x : Deed) : SetBy (ds ++ [x]) c p := by
 obtain ⟨y, hy, r⟩ := h
 exact ⟨y, List.mem_append_left _ hy, r⟩
def SetTo (W : Wd) (c : Nat) (k : Int) (key val : ByteArray) (r : Wd × Ans) : Prop :=
 (∀ p, p ∈ (r.1.at c).set ∨ p ∈ (r.1.at c).sav → p ∈ (W.at c).set ∨ p ∈ (W.at c).sav ∨ (k = 9 ∧ p = (key, val) ∧ r.2.kind = 1)) ∧ (k = 6 → r.2.kind = 2 → (key, r.2.text) ∈ (W.at c).set)
section
variable {W : Wd} {c : Nat}
theorem did1_setTo (hc : c < W.ss.length) (k : Int) (key val : ByteArray) : SetTo W c k key val (did1 W c k key val) := by
 have same : ∀ a, a.kind ≠ 2 → SetTo W c k key val (W, a) := fun a ha => ⟨fun p hp => hp.imp_right .inl, fun _ h => absurd h ha⟩
 have put : ∀ (x : Sess), (∀ p, p ∈ x.set ∨ p ∈ x.sav → p ∈ (W.at c).set ∨ p ∈ (W.at c).sav ∨ (k = 9 ∧ p = (key, val))) → SetTo W c k key val (W.put c x, ok') := fun x hx => by
  refine ⟨fun p hp => ?_, fun _ h => absurd h (by show ¬ (1 : Int) = 2; decide)⟩
  simp only [wput_at hc] at hp
  rcases hx p hp with h | h | h
  ·exact .inl h
  ·exact .inr (.inl h)
  ·exact .inr (.inr ⟨h.1, h.2, rfl⟩)
 have n4 : ∀ t, (no' t).kind ≠ 2 := fun t => by show ¬ (4 : Int) = 2; decide
 unfold did1
 simp only
 refine sav_ite (fun _ => same _ (n4 _)) fun _ => sav_ite (fun _ => sav_ite (fun _ => put _ fun p hp => ?_) fun _ => same _ (n4 _)) fun _ => sav_ite (fun _ => sav_ite (fun _ => same _ (n4 _)) fun _ => sav_ite (fun _ => ?_) fun _ => put _ fun p hp => ?_) fun _ => sav_ite (fun _ => sav_ite (fun _ => put _ fun p hp => ?_) fun _ => same _ (n4 _)) fun _ => ?_
 ·rcases hp with hp | hp <;> exact .inl hp
 ·have e : (⟨plusF W.rows (W.at c).wr, W.ss.set c { W.at c with st := 0, sav := [], wr := [] }⟩ : Wd).at c = { W.at c with st := 0, sav := [], wr := [] } := by rw [set_at hc, if_pos rfl]
  refine ⟨fun p hp => ?_, fun _ h => absurd h (by show ¬ (1 : Int) = 2; decide)⟩
  simp only [e] at hp
  rcases hp with hp | hp
  ·exact .inl hp
  ·cases hp
 ·rcases hp with hp | hp
  ·exact .inr (.inl hp)
  ·cases hp
 ·rcases hp with hp | hp
  ·cases hp
  ·exact .inr (.inl hp)
 refine sav_ite (fun h6 => ⟨fun p hp => hp.imp_right .inl, fun _ h => ?_⟩) fun h6 => sav_ite (fun h7 => ⟨fun p hp => hp.imp_right .inl, fun h _ => absurd h h6⟩) fun h7 => sav_ite (fun h9 => sav_ite (fun _ => same _ (n4 _)) fun _ => put _ fun p hp => ?_) fun _ => ?_
 ·cases ha : atL (W.at c).set key with
  | none => rw [ha] at h; exact absurd h (by show ¬ (3 : Int) = 2; decide)
  | some v => rw [ha] at h; exact atL_mem ha
 ·rcases hp with hp | hp
  ·rcases plusL_mem hp with e | hp
   ·exact .inr (.inr ⟨h9, e⟩)
   ·exact .inl hp
  ·exact .inr (.inl hp)
 refine sav_ite (fun _ => sav_ite (fun _ => same _ (n4 _)) fun _ => sav_ite (fun _ => same _ (n4 _)) fun _ => sav_ite (fun _ => put _ fun p hp => ?_) fun _ => ⟨fun p hp => hp.imp_right .inl, fun _ h => absurd h (by show ¬ (1 : Int) = 2; decide)⟩) fun _ => sav_ite (fun _ => sav_ite (fun _ => same _ (n4 _)) fun _ => put _ fun p hp => ?_) fun _ => same _ (n4 _)
 ·rcases hp with hp | hp
  ·exact .inl hp
  ·exact .inr (.inl hp)
 ·rcases hp with hp | hp
  ·exact .inl hp
  ·exact .inr (.inl hp)
theorem doR_setTo (h : WorldOk W) (hc : c < W.ss.length) (r : Req) : SetTo W c r.k r.key r.val (doR W c r) := by
 have hd : SetTo W c r.k r.key r.val (didM W c r.k r.key r.val) := by
  unfold didM
  refine sav_ite (fun h8 => sav_ite (fun _ => ⟨fun p hp => hp.imp_right .inl, fun h => by omega⟩) fun _ => ?_) fun _ => did1_setTo hc _ _ _
  cases ha : atL (W.at c).prep r.key with
  | none => exact ⟨fun p hp => hp.imp_right .inl, fun h => by omega⟩
  | some t =>
   have hp := prep_stmt (sess_at h hc).prep ha
   have := did1_setTo (W := W) hc (kindN (cutA t)) (cutA (cutB t)) (cutB (cutB t))
   refine ⟨fun p hp' => ?_, fun h => by omega⟩
   rcases this.1 p hp' with h1 | h1 | h1
   ·exact .inl h1
   ·exact .inr (.inl h1)
   ·have := h1.1; omega
 unfold doR doM
 simp only
 refine sav_ite (fun hk => ?_) (fun _ => hd)
 have hl : c < (didM W c r.k r.key r.val).1.ss.length := by
  rcases Nat.lt_or_ge c (didM W c r.k r.key r.val).1.ss.length with h' | h'
  ·exact h'
  ·have := hk.2
   unfold Wd.at at this
   rw [List.getD_eq_getElem?_getD, List.getElem?_eq_none h'] at this
   cases this
 refine ⟨fun p hp => hd.1 p ?_, hd.2⟩
 simp only [wput_at hl] at hp
 exact hp
end
theorem other_at {W : Wd} (h : WorldOk W) {c : Nat} (hc : c < W.ss.length) (r : Req) {x : Nat} (hx : x ≠ c) : (doR W c r).1.at x = W.at x := by
 obtain ⟨rows, y, a, e⟩ := doM_form h hc r.k r.key r.val
 unfold doR
 rw [e, set_at hc, if_neg (fun e => hx e.symm)]
theorem leak_one {mode : Int} {d : D} {c : Nat} {r : Req} (hc : c < 6) (hr : r.fine) (h : LeakI d) : LeakI (d.one mode c r) := by
 by_cases hf : refB mode r = true
 ·have e1 : (d.one mode c r).w = d.w := by rw [one_w, if_pos hf]
  have e2 : (d.one mode c r).deeds = d.deeds := by rw [one_deeds, if_pos hf]
  exact ⟨hok_one hc hr h.ok, by rw [e1, e2]; exact h.set, by rw [e1, e2]; exact h.sav, by rw [e2]; exact h.got⟩
 ·have hc' : c < d.w.ss.length := by rw [h.ok.2]; exact hc
  have e1 : (d.one mode c r).w = (doR d.w c r).1 := by rw [one_w, if_neg hf]
  have e2 : (d.one mode c r).deeds = d.deeds ++ [⟨c, r, (doR d.w c r).2, ((doR d.w c r).1.at c).st⟩] := by rw [one_deeds, if_neg hf]
  have hs := doR_setTo h.ok.1 hc' r
  have key : ∀ x, x < 6 → ∀ p, p ∈ ((doR d.w c r).1.at x).set ∨ p ∈ ((doR d.w c r).1.at x).sav → SetBy (d.deeds ++ [⟨c, r, (doR d.w c r).2, ((doR d.w c r).1.at c).st⟩]) x p := fun x hx p hp => by
   by_cases e : x = c
   ·subst e
    rcases hs.1 p hp with h1 | h1 | ⟨h1, h2, h3⟩
    ·exact (h.set x hx p h1).more _
    ·exact (h.sav x hx p h1).more _
    ·refine ⟨_, List.mem_append_right _ List.mem_cons_self, rfl, ?_, h3⟩
     rw [h2]
     cases r
     simp only at h1 ⊢
     rw [h1]
   ·rw [other_at h.ok.1 hc' r e] at hp
    rcases hp with hp | hp
    ·exact (h.set x hx p hp).more _
    ·exact (h.sav x hx p hp).more _
  refine ⟨hok_one hc hr h.ok, fun x hx p hp => ?_, fun x hx p hp => ?_, ?_⟩
  ·rw [e1] at hp; rw [e2]; exact key x hx p (.inl hp)
  ·rw [e1] at hp; rw [e2]; exact key x hx p (.inr hp)
  ·rw [e2]
   intro i hi h6 h2
   by_cases hl : i < d.deeds.length
   ·rw [List.getElem_append_left hl] at h6 h2 ⊢
    rw [List.take_append_of_le_length (by omega)]
    exact h.got i hl h6 h2
   ·have hi' : i = d.deeds.length := by simp at hi; omega
    subst hi'
    simp only [List.getElem_concat_length] at h6 h2 ⊢
    rw [List.take_append_of_le_length (nL _), List.take_length]
    exact h.set c hc _ (hs.2 h6 h2)
theorem leak_leave {d : D} {c : Nat} (hc : c < 6) (h : LeakI d) : LeakI ⟨d.w.put c Sess.zero, d.sent, d.deeds⟩ := by
 have hc' : c < d.w.ss.length := by rw [h.ok.2]; exact hc
 have e : ∀ x, (d.w.put c Sess.zero).at x = if c = x then Sess.zero else d.w.at x := fun x => set_at hc' _ _ _
 refine ⟨hok_leave hc h.ok, fun x hx p hp => ?_, fun x hx p hp => ?_, h.got⟩
 ·simp only [e] at hp
  by_cases e' : c = x
  ·rw [if_pos e'] at hp; cases hp
  ·rw [if_neg e'] at hp; exact h.set x hx p hp
 ·simp only [e] at hp
  by_cases e' : c = x
  ·rw [if_pos e'] at hp; cases hp
  ·rw [if_neg e'] at hp; exact h.sav x hx p hp
theorem house_at (x : Nat) : houseStart.at x = Sess.zero := zeros_at _ _ _
theorem leak_start (n : Nat) : LeakI (Mach.start houseStart n).d := by
 refine ⟨hok_start n, fun x hx p hp => ?_, fun x hx p hp => ?_, fun i hi => absurd hi (by simp [Mach.start, Mach.d])⟩
 ·have : p ∈ (houseStart.at x).set := hp
  rw [house_at] at this; cases this
 ·have : p ∈ (houseStart.at x).sav := hp
  rw [house_at] at this; cases this
theorem leak_run {mode : Int} {n : Nat} {l : List Act} (hl : actsE l = 0) : LeakI ((Mach.start houseStart n).run houseO mode l).d :=
 run_keeps (fun d c r hc hr h => leak_one hc hr h) (fun d c hc h => leak_leave hc h) (start_ok _ _ _) (leak_start n) hl
def PutBy (ds : List Deed) (p : ByteArray × ByteArray) : Prop := ∃ x ∈ ds, x.a.kind = 1 ∧ (x.r = ⟨10, p.1, p.2⟩ ∨ x.r.k = 8)
structure RowI (d : D) : Prop where
 ok : HOk d
 rows : ∀ p ∈ d.w.rows, PutBy d.deeds p
 wr : ∀ c, c < 6 → ∀ p ∈ (d.w.at c).wr, PutBy d.deeds p
theorem PutBy.more {ds : List Deed} {p : ByteArray × ByteArray} (h : PutBy ds p) (x : Deed) : PutBy (ds ++ [x]) p := by
 obtain ⟨y, hy, r⟩ := h
 exact ⟨y, List.mem_append_left _ hy, r⟩
def RowTo' (W : Wd) (c : Nat) (k : Int) (key val : ByteArray) (r : Wd × Ans) : Prop :=
 ∀ p, p ∈ r.1.rows ∨ p ∈ (r.1.at c).wr → p ∈ W.rows ∨ p ∈ (W.at c).wr ∨ (k = 10 ∧ p = (key, val) ∧ r.2.kind = 1)
section
variable {W : Wd} {c : Nat}
theorem did1_rowTo (hc : c < W.ss.length) (k : Int) (key val : ByteArray) : RowTo' W c k key val (did1 W c k key val) := by
 have same : ∀ a, RowTo' W c k key val (W, a) := fun a p hp => hp.imp_right .inl
 have put : ∀ (x : Sess), (∀ p, p ∈ x.wr → p ∈ (W.at c).wr ∨ (k = 10 ∧ p = (key, val))) → RowTo' W c k key val (W.put c x, ok') := fun x hx p hp => by
  simp only [wput_at hc] at hp
  rcases hp with hp | hp
  ·exact .inl hp
  ·rcases hx p hp with h | h
   ·exact .inr (.inl h)
   ·exact .inr (.inr ⟨h.1, h.2, rfl⟩)
 unfold did1
 simp only
 refine sav_ite (fun _ => same _) fun _ => sav_ite (fun _ => sav_ite (fun _ => put _ fun p hp => .inl hp) fun _ => same _) fun _ => sav_ite (fun _ => sav_ite (fun _ => same _) fun _ => sav_ite (fun _ p hp => ?_) fun _ => put _ fun p hp => by cases hp) fun _ => sav_ite (fun _ => sav_ite (fun _ => put _ fun p hp => .inl hp) fun _ => same _) fun _ => ?_
 ·have e : (⟨plusF W.rows (W.at c).wr, W.ss.set c { W.at c with st := 0, sav := [], wr := [] }⟩ : Wd).at c = { W.at c with st := 0, sav := [], wr := [] } := by rw [set_at hc, if_pos rfl]
  simp only [e] at hp
  rcases hp with hp | hp
  ·rcases plusF_mem hp with hp | hp
   ·exact .inl hp
   ·exact .inr (.inl hp)
  ·cases hp
 refine sav_ite (fun _ => same _) fun _ => sav_ite (fun _ => same _) fun _ => sav_ite (fun _ => sav_ite (fun _ => same _) fun _ => put _ fun p hp => .inl hp) fun _ => sav_ite (fun h10 => sav_ite (fun _ => same _) fun _ => sav_ite (fun _ => same _) fun _ => sav_ite (fun _ => put _ fun p hp => ?_) fun _ p hp => ?_) fun _ => sav_ite (fun _ => sav_ite (fun _ => same _) fun _ => put _ fun p hp => .inl hp) fun _ => same _
 ·rcases plusL_mem hp with e | hp
  ·exact .inr ⟨h10, e⟩
  ·exact .inl hp
 ·rcases hp with hp | hp
  ·rcases plusL_mem hp with e | hp
   ·exact .inr (.inr ⟨h10, e, rfl⟩)
   ·exact .inl hp
  ·exact .inr (.inl hp)
theorem doR_rowTo (h : WorldOk W) (hc : c < W.ss.length) (r : Req) : ∀ p, p ∈ (doR W c r).1.rows ∨ p ∈ ((doR W c r).1.at c).wr → p ∈ W.rows ∨ p ∈ (W.at c).wr ∨ ((doR W c r).2.kind = 1 ∧ (r = ⟨10, p.1, p.2⟩ ∨ r.k = 8)) := by
 have hd : ∀ p, p ∈ (didM W c r.k r.key r.val).1.rows ∨ p ∈ ((didM W c r.k r.key r.val).1.at c).wr → p ∈ W.rows ∨ p ∈ (W.at c).wr ∨ ((didM W c r.k r.key r.val).2.kind = 1 ∧ (r = ⟨10, p.1, p.2⟩ ∨ r.k = 8)) := by
  unfold didM
  by_cases h8 : r.k = 8
  ·rw [if_pos h8]
   intro p
   by_cases h2 : (W.at c).st = 2
   ·rw [if_pos h2]; exact fun hp => hp.imp_right .inl
   ·rw [if_neg h2]
    cases ha : atL (W.at c).prep r.key with
    | none => exact fun hp => hp.imp_right .inl
    | some t =>
     intro hp
     rcases did1_rowTo (W := W) hc _ _ _ p hp with h1 | h1 | h1
     ·exact .inl h1
     ·exact .inr (.inl h1)
     ·exact .inr (.inr ⟨h1.2.2, .inr h8⟩)
  ·rw [if_neg h8]
   intro p hp
   rcases did1_rowTo (W := W) hc _ _ _ p hp with h1 | h1 | ⟨h1, h2, h3⟩
   ·exact .inl h1
   ·exact .inr (.inl h1)
   ·refine .inr (.inr ⟨h3, .inl ?_⟩)
    rw [h2]
    cases r
    simp only at h1 ⊢
    rw [h1]
 unfold doR doM
 simp only
 by_cases hk : (didM W c r.k r.key r.val).2.kind = 4 ∧ ((didM W c r.k r.key r.val).1.at c).st = 1
 ·rw [if_pos hk]
  have hl : c < (didM W c r.k r.key r.val).1.ss.length := by
   rcases Nat.lt_or_ge c (didM W c r.k r.key r.val).1.ss.length with h' | h'
   ·exact h'
   ·have := hk.2
    unfold Wd.at at this
    rw [List.getD_eq_getElem?_getD, List.getElem?_eq_none h'] at this
    cases this
  intro p hp
  refine hd p ?_
  simp only [wput_at hl] at hp
  rcases hp with hp | hp
  ·exact .inl hp
  ·cases hp
 ·rw [if_neg hk]; exact hd
end
theorem row_one {mode : Int} {d : D} {c : Nat} {r : Req} (hc : c < 6) (hr : r.fine) (h : RowI d) : RowI (d.one mode c r) := by
 by_cases hf : refB mode r = true
 ·have e1 : (d.one mode c r).w = d.w := by rw [one_w, if_pos hf]
  have e2 : (d.one mode c r).deeds = d.deeds := by rw [one_deeds, if_pos hf]
  exact ⟨hok_one hc hr h.ok, by rw [e1, e2]; exact h.rows, by rw [e1, e2]; exact h.wr⟩
 ·have hc' : c < d.w.ss.length := by rw [h.ok.2]; exact hc
  have e1 : (d.one mode c r).w = (doR d.w c r).1 := by rw [one_w, if_neg hf]
  have e2 : (d.one mode c r).deeds = d.deeds ++ [⟨c, r, (doR d.w c r).2, ((doR d.w c r).1.at c).st⟩] := by rw [one_deeds, if_neg hf]
  have hs := doR_rowTo h.ok.1 hc' r
  have key : ∀ p, p ∈ (doR d.w c r).1.rows ∨ p ∈ ((doR d.w c r).1.at c).wr → PutBy (d.deeds ++ [⟨c, r, (doR d.w c r).2, ((doR d.w c r).1.at c).st⟩]) p := fun p hp => by
   rcases hs p hp with h1 | h1 | ⟨h1, h2⟩
   ·exact (h.rows p h1).more _
   ·exact (h.wr c hc p h1).more _
   ·exact ⟨_, List.mem_append_right _ List.mem_cons_self, h1, h2⟩
  refine ⟨hok_one hc hr h.ok, fun p hp => ?_, fun x hx p hp => ?_⟩
  ·rw [e1] at hp; rw [e2]; exact key p (.inl hp)
  ·rw [e1] at hp; rw [e2]
   by_cases e : x = c
   ·subst e; exact key p (.inr hp)
   ·rw [other_at h.ok.1 hc' r e] at hp; exact (h.wr x hx p hp).more _
theorem row_leave {d : D} {c : Nat} (hc : c < 6) (h : RowI d) : RowI ⟨d.w.put c Sess.zero, d.sent, d.deeds⟩ := by
 have hc' : c < d.w.ss.length := by rw [h.ok.2]; exact hc
 have e : ∀ x, (d.w.put c Sess.zero).at x = if c = x then Sess.zero else d.w.at x := fun x => set_at hc' _ _ _
 refine ⟨hok_leave hc h.ok, h.rows, fun x hx p hp => ?_⟩
 simp only [e] at hp
 by_cases e' : c = x
 ·rw [if_pos e'] at hp; cases hp
 ·rw [if_neg e'] at hp; exact h.wr x hx p hp
theorem row_start (n : Nat) : RowI (Mach.start houseStart n).d := by
 refine ⟨hok_start n, (fun p hp => by cases hp), fun x hx p hp => ?_⟩
 have : p ∈ (houseStart.at x).wr := hp
 rw [house_at] at this; cases this
theorem row_run {mode : Int} {n : Nat} {l : List Act} (hl : actsE l = 0) : RowI ((Mach.start houseStart n).run houseO mode l).d :=
 run_keeps (fun d c r hc hr h => row_one hc hr h) (fun d c hc h => row_leave hc h) (start_ok _ _ _) (row_start n) hl
def PRow (w : World) (P : Nat) (f : Nat → Value) : Prop := ∃ cur : Array Value, w.heap[P]? = some (.cells cur 94 (0, 0)) ∧ cur.size = 48 ∧ ∀ j, j < 48 → cur[j]? = some (f j)
section
variable {w w' : World} {P : Nat} {f : Nat → Value}
theorem PRow.cell (h : PRow w P f) {j : Nat} (hj : j < 48) : w.cell? ⟨P, j, none⟩ = some (f j) := by
 obtain ⟨cur, hh, hs, hc⟩ := h
 unfold World.cell?
 simp only [hh]
 exact hc j hj
theorem PRow.frozen (h : PRow w P f) (j : Nat) : w.frozen? ⟨P, j, none⟩ = false := by
 obtain ⟨cur, hh, _⟩ := h
 unfold World.frozen?
 simp [hh]
theorem PRow.lt (h : PRow w P f) : P < w.heap.size := by
 obtain ⟨cur, hh, _⟩ := h
 exact (Array.getElem?_eq_some_iff.1 hh).1
theorem PRow.same (h : PRow w P f) (e : w'.heap[P]? = w.heap[P]?) : PRow w' P f := by
 obtain ⟨cur, hh, r⟩ := h
 exact ⟨cur, e.trans hh, r⟩
theorem PRow.set (h : PRow w P f) (j : Nat) (u : Value) : PRow (w.setCell ⟨P, j, none⟩ u) P (upd f j u) := by
 obtain ⟨cur, hh, hs, hc⟩ := h
 refine ⟨cur.setIfInBounds j u, ?_, by simpa using hs, fun i hi => ?_⟩
 ·simp [World.setCell, Array.getElem?_modify, hh]
 ·rw [Array.getElem?_setIfInBounds]
  unfold upd
  by_cases e : j = i
  ·subst e; rw [if_pos rfl, if_pos (by omega), if_pos rfl]
  ·rw [if_neg e, if_neg (fun h => e h.symm)]; exact hc i hi
theorem PRow.new (w : World) (cs : Array Value) (hs : cs.size = 48) (f : Nat → Value) (hf : ∀ j, j < 48 → cs[j]? = some (f j)) : PRow (w.alloc (.cells cs 94)) w.heap.size f :=
 ⟨cs, heap_alloc_new w _, hs, hf⟩
end
def slT (k : Nat) : Nat := if k = 1 then 4 else if k < 8 then 36 else if k = 8 then 3 else if k < 15 then 5 else 40
def slZ (k : Nat) : Nat := if k = 1 then 1 else if k < 8 then 3 else if k < 15 then 1 else 7
def slC (k : Nat) : Nat := if k = 1 then 3 else if k < 8 then 4 + (k - 2) * 6 + 1 else if k = 8 then 40 else if k < 15 then 41 + (k - 9) else 47
def reqV (r : Req) : List Value := [.int .i64 r.k, .string r.key, .string r.val]
def deedV (d : Deed) : List Value := [.int .i64 d.c, .int .i64 d.r.k, .string d.r.key, .string d.r.val, .int .i64 d.a.kind, .string d.a.text, .int .i64 d.st]
def items (m : Mach PE) (k : Nat) : List (List Value) := if k = 1 then m.busy.map (fun b => [.bool b]) else if k < 8 then (m.get (k - 2)).wait.map reqV else if k = 8 then m.line.map (fun (n : Nat) => [Value.int .i64 (n : Int)])
 else if k < 15 then (m.sent.getD (k - 9) ⟨#[]⟩).data.toList.map (fun b => [.int .u8 b.toNat]) else m.deeds.map deedV
def Free (G : Nat → Option Nat) (b : Nat) : Prop := ∀ i, G i ≠ some b
structure PMem (X : Nat) (w : World) (base P : Nat) (f : Nat → Value) (G : Nat → Option Nat) (mode : Int) (m : Mach PE) : Prop where
 row : PRow w P f
 p0 : G 0 = some P
 lo : ∀ i b, G i = some b → base ≤ b ∧ b < w.heap.size
 inj : ∀ i j b, G i = some b → G j = some b → i = j
 sl : ∀ k, 1 ≤ k → k ≤ 15 → k ≠ X → Sl w (slT k) (slZ k) (f (slC k)) (G k) (items m k).length (items m k).flatten
 md : f 0 = .int .i64 mode
 wld : WldP w (Free G) (f 1) (f 2) m.e.w
 bytes : ∀ c, c < 6 → f (4 + c * 6) = .string (m.get c).bytes
 has : ∀ c, c < 6 → f (4 + c * 6 + 2) = .bool (m.get c).srv.isSome
 srv : ∀ c, c < 6 → ∃ q : Int, f (4 + c * 6 + 3) = .int .i64 q ∧ ∀ s, (m.get c).srv = some s → q = s
 set : ∀ c, c < 6 → Lst w w.heap.size (f (4 + c * 6 + 4)) (m.e.of c).1 ∧ InP (Free G) (f (4 + c * 6 + 4)) (m.e.of c).1
 prep : ∀ c, c < 6 → Lst w w.heap.size (f (4 + c * 6 + 5)) (m.e.of c).2 ∧ InP (Free G) (f (4 + c * 6 + 5)) (m.e.of c).2
section
variable {X : Nat} {w w' : World} {base P : Nat} {f : Nat → Value} {G : Nat → Option Nat} {mode : Int} {m m' : Mach PE}
theorem lst_free {v : Value} {l : PL} (h : Lst w w.heap.size v l ∧ InP (Free G) v l) (hs : w.heap.size ≤ w'.heap.size) (hk : ∀ b, Free G b → b < w.heap.size → w'.heap[b]? = w.heap[b]?) : Lst w' w'.heap.size v l ∧ InP (Free G) v l :=
 ⟨h.1.keepP (own_lt h.1 h.2) (fun b hb => hk b hb.1 hb.2) (fun b hb => Nat.lt_of_lt_of_le hb.2 hs), h.2⟩
theorem PMem.keep (h : PMem X w base P f G mode m) (hX : 0 < X) (hs : w.heap.size ≤ w'.heap.size) (hk : ∀ b, b < w.heap.size → G X ≠ some b → w'.heap[b]? = w.heap[b]?) : PMem X w' base P f G mode m := by
 have fr : ∀ b, Free G b → b < w.heap.size → w'.heap[b]? = w.heap[b]? := fun b hb hlt => hk b hlt (hb X)
 have hP : w'.heap[P]? = w.heap[P]? := hk P h.row.lt (fun e => by have := h.inj X 0 P e h.p0; omega)
 refine ⟨h.row.same hP, h.p0, fun i b hb => ⟨(h.lo i b hb).1, Nat.lt_of_lt_of_le (h.lo i b hb).2 hs⟩, h.inj, fun k h1 h2 h3 => ?_, h.md, h.wld.keep hs fr, h.bytes, h.has, h.srv, fun c hc => lst_free (h.set c hc) hs fr, fun c hc => lst_free (h.prep c hc) hs fr⟩
 exact (h.sl k h1 h2 h3).keep fun b hb => hk b (h.lo k b hb).2 (fun e => h3 (h.inj k X b hb e))
theorem PMem.below (h : PMem X w base P f G mode m) (hb : Below w.heap.size w w') : PMem X w' base P f G mode m := by
 have fr : ∀ b, Free G b → b < w.heap.size → w'.heap[b]? = w.heap[b]? := fun b _ hlt => hb.block b hlt
 refine ⟨h.row.same (hb.block P h.row.lt), h.p0, fun i b hb' => ⟨(h.lo i b hb').1, Nat.lt_of_lt_of_le (h.lo i b hb').2 hb.size⟩, h.inj, fun k h1 h2 h3 => ?_, h.md, h.wld.keep hb.size fr, h.bytes, h.has, h.srv, fun c hc => lst_free (h.set c hc) hb.size fr, fun c hc => lst_free (h.prep c hc) hb.size fr⟩
 exact (h.sl k h1 h2 h3).keep fun b hb' => hb.block b (h.lo k b hb').2
theorem PMem.but (h : PMem 0 w base P f G mode m) (X : Nat) : PMem X w base P f G mode m := ⟨h.row, h.p0, h.lo, h.inj, fun k h1 h2 _ => h.sl k h1 h2 (by omega), h.md, h.wld, h.bytes, h.has, h.srv, h.set, h.prep⟩
theorem free_upd {G : Nat → Option Nat} {k b x : Nat} (h : Free G x) (hne : x ≠ b) : Free (upd G k (some b)) x := fun i => by
 unfold upd
 by_cases e : i = k
 ·rw [if_pos e]; intro h'; injection h' with h'; exact hne h'.symm
 ·rw [if_neg e]; exact h i
theorem InP.lt_free {v : Value} {l : PL} {G : Nat → Option Nat} {k b : Nat} (hl : Lst w w.heap.size v l) (h : InP (Free G) v l) (hb : w.heap.size ≤ b) : InP (Free (upd G k (some b))) v l :=
 (own_lt hl h).mono fun x hx => free_upd hx.1 (by have := hx.2; omega)
theorem PMem.move (h : PMem X w base P f G mode m) (hX : 0 < X) (hs : w.heap.size ≤ w'.heap.size) (hk : ∀ b, b < w.heap.size → G X ≠ some b → w'.heap[b]? = w.heap[b]?) {b : Nat} (hb : w.heap.size ≤ b) (hb' : b < w'.heap.size) (hbase : base ≤ w.heap.size) : PMem X w' base P f (upd G X (some b)) mode m := by
 have h2 := h.keep hX hs hk
 have hlt : ∀ i x, G i = some x → x < w.heap.size := fun i x hx => (h.lo i x hx).2
 have up : ∀ i, i ≠ X → upd G X (some b) i = G i := fun i hi => by unfold upd; rw [if_neg hi]
 have upX : upd G X (some b) X = some b := by unfold upd; rw [if_pos rfl]
 refine ⟨h2.row, (up 0 (by omega)).trans h.p0, fun i x hx => ?_, fun i j x hi hj => ?_, fun k h1 h3 h4 => ?_, h.md, ?_, h.bytes, h.has, h.srv, fun c hc => ⟨(h2.set c hc).1, ?_⟩, fun c hc => ⟨(h2.prep c hc).1, ?_⟩⟩
 ·by_cases e : i = X
  ·subst e; rw [upX] at hx; injection hx with hx; omega
  ·rw [up i e] at hx; exact h2.lo i x hx
 ·by_cases ei : i = X <;> by_cases ej : j = X
  ·omega
  ·subst ei; rw [upX] at hi; rw [up j ej] at hj; injection hi with hi; have := hlt j x hj; omega
  ·subst ej; rw [upX] at hj; rw [up i ei] at hi; injection hj with hj; have := hlt i x hi; omega
  ·rw [up i ei] at hi; rw [up j ej] at hj; exact h.inj i j x hi hj
 ·rw [up k h4]; exact h2.sl k h1 h3 h4
 ·exact (h.wld.small.keep hs (fun x hx hlt' => hk x hlt' (hx.1 X))).mono fun x hx => free_upd hx.1 (by have := hx.2; omega)
 ·exact InP.lt_free (h.set c hc).1 (h.set c hc).2 hb
 ·exact InP.lt_free (h.prep c hc).1 (h.prep c hc).2 hb
theorem Sl.ne {t size n : Nat} {v : Value} {g : Option Nat} {xs : List Value} (h : Sl w t size v g n xs) (hg : g ≠ some P) (hk : ∀ b, b ≠ P → w'.heap[b]? = w.heap[b]?) : Sl w' t size v g n xs := h.keep fun b hb => hk b fun e => hg (by rw [hb, e])
theorem PMem.noP (h : PMem X w base P f G mode m) {k : Nat} (hk : 1 ≤ k) : G k ≠ some P := fun e => by have := h.inj k 0 P e h.p0; omega
theorem PMem.free_ne (h : PMem X w base P f G mode m) {b : Nat} (hb : Free G b) : b ≠ P := fun e => hb 0 (by rw [h.p0, e])
theorem PMem.slK (h : PMem X w base P f G mode m) (hk : ∀ b, b ≠ P → w'.heap[b]? = w.heap[b]?) {k : Nat} (h1 : 1 ≤ k) (h2 : k ≤ 15) (h3 : k ≠ X) : Sl w' (slT k) (slZ k) (f (slC k)) (G k) (items m k).length (items m k).flatten := (h.sl k h1 h2 h3).ne (h.noP h1) hk
theorem PMem.wldK (h : PMem X w base P f G mode m) (hs : w'.heap.size = w.heap.size) (hk : ∀ b, b ≠ P → w'.heap[b]? = w.heap[b]?) {r s : Value} {W : Wd} (hw : WldP w (Free G) r s W) : WldP w' (Free G) r s W := hw.keep (by omega) fun b hb _ => hk b (h.free_ne hb)
theorem PMem.lstK (h : PMem X w base P f G mode m) (hs : w'.heap.size = w.heap.size) (hk : ∀ b, b ≠ P → w'.heap[b]? = w.heap[b]?) {v : Value} {l : PL} (hl : Lst w w.heap.size v l ∧ InP (Free G) v l) : Lst w' w'.heap.size v l ∧ InP (Free G) v l := lst_free hl (by omega) fun b hb _ => hk b (h.free_ne hb)
theorem PMem.loK (h : PMem X w base P f G mode m) (hs : w'.heap.size = w.heap.size) : ∀ i b, G i = some b → base ≤ b ∧ b < w'.heap.size := fun i b hb => by rw [hs]; exact h.lo i b hb
theorem size_set (w : World) (p : Addr) (u : Value) : (w.setCell p u).heap.size = w.heap.size := by simp [World.setCell]
theorem set_off (w : World) (P j : Nat) (u : Value) : ∀ b, b ≠ P → (w.setCell ⟨P, j, none⟩ u).heap[b]? = w.heap[b]? := fun b hb => Below.heap_setCell _ _ _ _ hb
theorem upd_ne {f : Nat → Value} {j i : Nat} {u : Value} (h : i ≠ j) : upd f j u i = f i := by unfold upd; rw [if_neg h]
theorem upd_at {f : Nat → Value} {j : Nat} {u : Value} : upd f j u j = u := by unfold upd; rw [if_pos rfl]
theorem slC_inj {k k' : Nat} (h1 : 1 ≤ k) (h2 : k ≤ 15) (h1' : 1 ≤ k') (h2' : k' ≤ 15) (h : slC k = slC k') : k = k' := by
 unfold slC at h
 repeat' split at h
 all_goals omega
theorem slC_no {k c : Nat} (h1 : 1 ≤ k) (h2 : k ≤ 15) (hc : c < 6) : slC k ≠ 0 ∧ slC k ≠ 1 ∧ slC k ≠ 2 ∧ slC k ≠ 4 + c * 6 ∧ slC k ≠ 4 + c * 6 + 2 ∧ slC k ≠ 4 + c * 6 + 3 ∧ slC k ≠ 4 + c * 6 + 4 ∧ slC k ≠ 4 + c * 6 + 5 := by
 unfold slC
 repeat' split
 all_goals omega
theorem PMem.fill (h : PMem X w base P f G mode m) (hs : Sl w (slT X) (slZ X) (f (slC X)) (G X) (items m' X).length (items m' X).flatten) (ho : ∀ k, k ≠ X → items m' k = items m k) (he : m'.e = m.e) (hb : ∀ c, (m'.get c).bytes = (m.get c).bytes) (hv : ∀ c, (m'.get c).srv = (m.get c).srv) : PMem 0 w base P f G mode m' := by
 refine ⟨h.row, h.p0, h.lo, h.inj, fun k h1 h2 _ => ?_, h.md, by rw [he]; exact h.wld, fun c hc => by rw [hb]; exact h.bytes c hc, fun c hc => by rw [hv]; exact h.has c hc, fun c hc => by rw [hv]; exact h.srv c hc, fun c hc => by rw [he]; exact h.set c hc, fun c hc => by rw [he]; exact h.prep c hc⟩
 by_cases e : k = X
 ·subst e; exact hs
 ·rw [ho k e]; exact h.sl k h1 h2 e
theorem PMem.cellX (h : PMem X w base P f G mode m) (h1 : 1 ≤ X) (h2 : X ≤ 15) (v : Value) : PMem X (w.setCell ⟨P, slC X, none⟩ v) base P (upd f (slC X) v) G mode m := by
 have hk := set_off w P (slC X) v
 have hz := size_set w ⟨P, slC X, none⟩ v
 have no := fun c (hc : c < 6) => slC_no (c := c) h1 h2 hc
 refine ⟨h.row.set _ _, h.p0, h.loK hz, h.inj, fun k a b e => ?_, ?_, ?_, fun c hc => ?_, fun c hc => ?_, fun c hc => ?_, fun c hc => ?_, fun c hc => ?_⟩
 ·rw [upd_ne (fun e' => e (slC_inj a b h1 h2 e'))]; exact h.slK hk a b e
 ·rw [upd_ne (no 0 (by omega)).1.symm]; exact h.md
 ·rw [upd_ne (no 0 (by omega)).2.1.symm, upd_ne (no 0 (by omega)).2.2.1.symm]; exact h.wldK hz hk h.wld
 ·rw [upd_ne (no c hc).2.2.2.1.symm]; exact h.bytes c hc
 ·rw [upd_ne (no c hc).2.2.2.2.1.symm]; exact h.has c hc
 ·rw [upd_ne (no c hc).2.2.2.2.2.1.symm]; exact h.srv c hc
 ·rw [upd_ne (no c hc).2.2.2.2.2.2.1.symm]; exact h.lstK hz hk (h.set c hc)
 ·rw [upd_ne (no c hc).2.2.2.2.2.2.2.symm]; exact h.lstK hz hk (h.prep c hc)
theorem PMem.grow {k n' : Nat} {w1 : World} {v : Value} {xs : List Value} {b : Nat} (h : PMem 0 w base P f G mode m) (h1 : 1 ≤ k) (h2 : k ≤ 15) (hbase : base ≤ w.heap.size) (hg : w.grownBy w1 (G k)) (hs : Sl w1 (slT k) (slZ k) v (some b) n' xs) (hb : G k = some b ∨ (w.heap.size ≤ b ∧ b < w1.heap.size))
  (hn : n' = (items m' k).length) (hx : xs = (items m' k).flatten) (ho : ∀ k', k' ≠ k → items m' k' = items m k') (he : m'.e = m.e) (hby : ∀ c, (m'.get c).bytes = (m.get c).bytes) (hv : ∀ c, (m'.get c).srv = (m.get c).srv) :
  PMem 0 (w1.setCell ⟨P, slC k, none⟩ v) base P (upd f (slC k) v) (upd G k (some b)) mode m' := by
 have hkb : ∀ b, b < w.heap.size → G k ≠ some b → w1.heap[b]? = w.heap[b]? := fun b hlt hne => hg.block b hlt (fun e => hne e.symm)
 have h3 : PMem k w1 base P f (upd G k (some b)) mode m := by
  rcases hb with hb | ⟨hb, hb'⟩
  ·have : upd G k (some b) = G := by
    funext i; unfold upd; split
    ·rename_i e; rw [e, hb]
    ·rfl
   rw [this]; exact (h.but k).keep (by omega) hg.size hkb
  ·exact (h.but k).move (by omega) hg.size hkb hb hb' hbase
 have h4 := h3.cellX h1 h2 v
 refine h4.fill ?_ ho he hby hv
 have e1 : upd f (slC k) v (slC k) = v := upd_at
 have e2 : upd G k (some b) k = some b := by unfold upd; rw [if_pos rfl]
 rw [e1, e2, ← hn, ← hx]
 refine hs.ne ?_ (set_off w1 P (slC k) v)
 intro e
 injection e with e
 have := h3.inj k 0 P (by rw [e2, e]) h3.p0
 omega
end
end Go.Proofs.YtpbaobmegomfpacGreatDoor
