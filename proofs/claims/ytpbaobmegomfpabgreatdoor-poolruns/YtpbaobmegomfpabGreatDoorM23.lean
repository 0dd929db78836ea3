/-
  Texts of the proof, one behind the other: PoolM4, HouseM, RawM, BackLaws, HouseI.
-/
import Derived.Test.YtpbaobmegomfpabGreatDoorM21
import Derived.Test.YtpbaobmegomfpabGreatDoorM7
set_option linter.unusedVariables false
set_option linter.unusedSimpArgs false
set_option maxRecDepth 100000
open List renaming getElem_toArray → gTA, getElem_cons_zero → gCZ, getElem_cons_succ → gCS, setIfInBounds_toArray → sTA, set_cons_zero → sCZ, set_cons_succ → sCS
open Nat renaming le_refl → nL
namespace Go.Proofs.YtpbaobmegomfpabGreatDoor
open Go.RowKit
structure Alike (P : Mach PE) (H : Mach Wd) : Prop where
 cl : P.cl = H.cl
 busy : P.busy = H.busy
 line : P.line = H.line
 sent : P.sent = H.sent
 deeds : P.deeds = H.deeds
 rows : P.e.w.rows = H.e.rows
 plen : P.e.w.ss.length = P.busy.length
 hlen : H.e.ss.length = 6
 klen : P.e.kept.length = 6
 okP : WorldOk P.e.w
 okH : WorldOk H.e
 hold : ∀ c s, (P.get c).srv = some s → H.e.at c = P.e.w.at s
 bare : ∀ c, c < 6 → (P.get c).srv = none → H.e.at c = ⟨0, (P.e.of c).1, (P.e.of c).2, [], []⟩
 free : ∀ s, s < P.e.w.ss.length → (∀ c, (P.get c).srv ≠ some s) → (P.e.w.at s).st = 0
section
variable {P : Mach PE} {H : Mach Wd} {mode : Int}
theorem Alike.get (h : Alike P H) (c : Nat) : H.get c = P.get c := by unfold Mach.get; rw [h.cl]
theorem set_at {W : Wd} {i : Nat} (h : i < W.ss.length) (rows : PL) (x : Sess) (j : Nat) : (⟨rows, W.ss.set i x⟩ : Wd).at j = if i = j then x else W.at j := by
 unfold Wd.at; simp only; rw [getD_set]; by_cases e : i = j <;> simp [e]; intro hh; omega
theorem sess_at {W : Wd} (h : WorldOk W) {i : Nat} (hi : i < W.ss.length) : SessOk (W.at i) := by rw [at_lt hi]; exact h.sess i hi
theorem Alike.srvlt (h : Alike P H) (hP : MOk mode P) {c s : Nat} (hs : (P.get c).srv = some s) : s < P.e.w.ss.length ∧ c < H.e.ss.length := by
 refine ⟨?_, ?_⟩
 ·rw [h.plen]; exact (List.getElem?_eq_some_iff.1 (hP.srv c s hs)).1
 ·rw [h.hlen]; have := srv_lt hs; rw [hP.n6] at this; exact this
theorem held_at {ss : List Sess} {me : Int} {key : ByteArray} {W : Wd} (hW : W.ss = ss) : heldB ss me key = true ↔ ∃ k, k < ss.length ∧ fndL (W.at k).wr key = true ∧ (k : Int) ≠ me := by
 rw [heldB_iff]
 constructor
 ·rintro ⟨k, hk, h1, h2⟩
  exact ⟨k, hk, by rw [at_lt (by rw [hW]; exact hk)]; simp only [hW]; exact h1, h2⟩
 ·rintro ⟨k, hk, h1, h2⟩
  refine ⟨k, hk, ?_, h2⟩
  rw [at_lt (by rw [hW]; exact hk)] at h1
  simp only [hW] at h1
  exact h1
theorem Alike.like (h : Alike P H) (hP : MOk mode P) {c s : Nat} (hs : (P.get c).srv = some s) : Like P.e.w H.e s c := by
 obtain ⟨h1, h2⟩ := h.srvlt hP hs
 refine ⟨h.okP, h.okH, h1, h2, h.rows, (h.hold c s hs).symm, fun key => ?_⟩
 rw [Bool.eq_iff_iff, held_at (W := P.e.w) rfl, held_at (W := H.e) rfl]
 constructor
 ·rintro ⟨s', hs', hf, hne⟩
  have : ∃ c', (P.get c').srv = some s' := Classical.byContradiction fun hn => by
   have h0 := h.free s' hs' (fun c' hc' => hn ⟨c', hc'⟩)
   rw [(sess_at h.okP hs').tx (by omega)] at hf
   cases hf
  obtain ⟨c', hc'⟩ := this
  refine ⟨c', (h.srvlt hP hc').2, by rw [h.hold c' s' hc']; exact hf, fun e => hne ?_⟩
  have : c' = c := by omega
  subst this
  rw [hs] at hc'; injection hc' with hc'; rw [hc']
 ·rintro ⟨c', hc', hf, hne⟩
  cases hx : (P.get c').srv with
  | none => rw [h.bare c' (by rw [h.hlen] at hc'; exact hc') hx] at hf; cases hf
  | some s' =>
   refine ⟨s', (h.srvlt hP hx).1, by rw [← h.hold c' s' hx]; exact hf, fun e => hne ?_⟩
   have : s' = s := by omega
   subst this
   rw [hP.inj c' c s' hx hs]
theorem Alike.turn (h : Alike P H) {c : Nat} {x : Cl} (hc : c < P.cl.length) (hs : x.srv = (P.get c).srv) : Alike (P.set c x) (H.set c x) := by
 have hg : ∀ d, ((P.set c x).get d).srv = (P.get d).srv := fun d => by
  rw [get_set hc]
  by_cases e : c = d
  ·subst e; rw [if_pos rfl]; exact hs
  ·rw [if_neg e]
 exact ⟨by show P.cl.set c x = H.cl.set c x; rw [h.cl], h.busy, h.line, h.sent, h.deeds, h.rows, h.plen, h.hlen, h.klen, h.okP, h.okH, fun d s hd => h.hold d s (by rw [← hg]; exact hd), fun d hd hn => h.bare d hd (by rw [← hg]; exact hn), fun s hl hn => h.free s hl (fun d hd => hn d (by rw [hg]; exact hd))⟩
theorem Alike.tell (h : Alike P H) (c : Nat) (a : Ans) (st : Int) : Alike (P.tell c a st) (H.tell c a st) := by
 have e : (P.tell c a st).sent = (H.tell c a st).sent := by unfold Mach.tell; simp only; rw [h.sent]
 exact ⟨h.cl, h.busy, h.line, e, h.deeds, h.rows, h.plen, h.hlen, h.klen, h.okP, h.okH, h.hold, h.bare, h.free⟩
theorem Alike.state (h : Alike P H) (hP : MOk mode P) {c : Nat} (hc : c < 6) : poolO.state P.e c (P.get c).srv = houseO.state H.e c (H.get c).srv := by
 show P.e.state (P.get c).srv = (H.e.at c).st
 cases hx : (P.get c).srv with
 | none => rw [h.bare c hc hx]; rfl
 | some s => rw [h.hold c s hx]; rfl
theorem Alike.exec (h : Alike P H) (hP : MOk mode P) {c s : Nat} (hs : (P.get c).srv = some s) {r : Req} (hr : checkE r.k r.key r.val = 0) {P' : Mach PE} {H' : Mach Wd} (e1 : P'.e = (poolO.exec P.e c s r).1) (e2 : H'.e = (houseO.exec H.e c s r).1) (e3 : P'.cl = P.cl) (e4 : H'.cl = H.cl)
  (e5 : P'.busy = P.busy) (e6 : H'.busy = H.busy) (e7 : P'.line = P.line) (e8 : H'.line = H.line) (e9 : P'.sent = H'.sent) (e10 : P'.deeds = H'.deeds) : Alike P' H' ∧ (poolO.exec P.e c s r).2 = (houseO.exec H.e c s r).2 := by
 have hl := h.like hP hs
 obtain ⟨rows, x, a, h1, h2⟩ := hl.doM r.k r.key r.val
 have o1 := doM_ok h.okP hl.hs hr
 have o2 := doM_ok h.okH hl.hc hr
 have x1 : P'.e = ⟨⟨rows, P.e.w.ss.set s x⟩, P.e.kept⟩ := by rw [e1]; show (⟨(doM P.e.w s r.k r.key r.val).1, P.e.kept⟩ : PE) = _; rw [h1]
 have x2 : H'.e = ⟨rows, H.e.ss.set c x⟩ := by rw [e2]; show (doM H.e c r.k r.key r.val).1 = _; rw [h2]
 have hg : ∀ d, P'.get d = P.get d := fun d => by unfold Mach.get; rw [e3]
 refine ⟨⟨by rw [e3, e4, h.cl], by rw [e5, e6, h.busy], by rw [e7, e8, h.line], e9, e10, by rw [x1, x2], by rw [x1, e5]; simp [h.plen], by rw [x2]; simp [h.hlen], by rw [x1]; exact h.klen, ?_, ?_, fun d s' hd => ?_, fun d hd hn => ?_, fun s' hl' hn => ?_⟩, ?_⟩
 ·rw [x1]; rw [h1] at o1; exact o1.1
 ·rw [x2]; rw [h2] at o2; exact o2.1
 ·rw [hg] at hd
  rw [x1, x2, set_at hl.hc, set_at hl.hs]
  by_cases e : c = d
  ·subst e
   rw [if_pos rfl, if_pos (by rw [hs] at hd; injection hd)]
  ·rw [if_neg e, if_neg (fun e' => e (hP.inj c d s hs (by rw [e']; exact hd)))]
   exact h.hold d s' hd
 ·rw [hg] at hn
  rw [x2, set_at hl.hc, if_neg (fun e => by rw [← e, hs] at hn; cases hn)]
  have := h.bare d hd hn
  rw [this]
  show _ = (⟨0, (P'.e.of d).1, (P'.e.of d).2, [], []⟩ : Sess)
  rw [x1]; rfl
 ·rw [x1] at hl' ⊢
  rw [set_at hl.hs, if_neg (fun e => hn c (by rw [hg, hs, e]))]
  exact h.free s' (by simpa using hl') (fun d hd => hn d (by rw [hg]; exact hd))
 ·show ((doM P.e.w s r.k r.key r.val).2, ((doM P.e.w s r.k r.key r.val).1.at s).st) = ((doM H.e c r.k r.key r.val).2, ((doM H.e c r.k r.key r.val).1.at c).st)
  rw [h1, h2, set_at hl.hs, set_at hl.hc, if_pos rfl, if_pos rfl]
theorem Alike.release (h : Alike P H) (hP : MOk mode P) {c s : Nat} (hs : (P.get c).srv = some s) (h0 : (P.e.w.at s).st = 0) : Alike (P.release poolO c s) (H.release houseO c s) := by
 obtain ⟨l1, l2⟩ := h.srvlt hP hs
 have hc' := srv_lt hs
 have hg : ∀ d, (P.release poolO c s).get d = if c = d then { P.get c with srv := none } else P.get d := fun d => get_set (m := P) hc'
 have ho : ∀ d, (P.release poolO c s).e.of d = if c = d then ((P.e.w.at s).set, (P.e.w.at s).prep) else P.e.of d := fun d => by
  show (P.e.kept.set c _).getD d ([], []) = _
  rw [getD_set]
  have : c < P.e.kept.length := by rw [h.klen, ← hP.n6]; exact hc'
  by_cases e : c = d
  ·rw [if_pos e, if_pos ⟨e, this⟩]
  ·rw [if_neg e, if_neg (fun hh => e hh.1)]; rfl
 have hx := sess_at h.okP l1
 refine ⟨?_, ?_, h.line, h.sent, h.deeds, h.rows, ?_, h.hlen, ?_, h.okP, h.okH, fun d s' hd => ?_, fun d hd hn => ?_, fun s' hl hn => ?_⟩
 ·show P.cl.set c _ = H.cl.set c _; rw [h.cl, h.get]
 ·show P.busy.set s false = H.busy.set s false; rw [h.busy]
 ·show P.e.w.ss.length = (P.busy.set s false).length; simp [h.plen]
 ·show (P.e.kept.set c _).length = 6; simp [h.klen]
 ·rw [hg] at hd
  by_cases e : c = d
  ·rw [if_pos e] at hd; cases hd
  ·rw [if_neg e] at hd; exact h.hold d s' hd
 ·rw [hg] at hn
  rw [ho]
  by_cases e : c = d
  ·subst e
   rw [if_pos rfl]
   show H.e.at c = _
   rw [h.hold c s hs]
   have := hx.idle h0
   have := hx.tx (by omega)
   cases hy : P.e.w.at s
   simp_all
  ·rw [if_neg e] at hn ⊢
   exact h.bare d hd hn
 ·by_cases e : s = s'
  ·subst e; exact h0
  ·refine h.free s' hl (fun d hd => hn d ?_)
   rw [hg, if_neg (fun e' => e (by rw [← e', hs] at hd; injection hd))]; exact hd
theorem Alike.proc (h : Alike P H) (hP : MOk mode P) {c : Nat} (hc : c < 6) (hr : readyB mode (P.get c) = true) : Alike (P.proc poolO mode c) (H.proc houseO mode c) := by
 have hc' : c < P.cl.length := by rw [hP.n6]; exact hc
 have hn := proc_line hP hr
 obtain ⟨r, l, hw, hs⟩ := ready_wait hr
 have t1 : Alike (P.set c { P.get c with wait := l }) (H.set c { P.get c with wait := l }) := h.turn hc' rfl
 have m1 : MOk mode (P.set c { P.get c with wait := l }) := hP.turn hc (fun q hq => hP.fine c q (by rw [hw]; exact List.mem_cons_of_mem _ hq)) rfl (fun hl => absurd hl hn)
 unfold Mach.proc
 rw [h.get]
 simp only [hw]
 by_cases hf : refB mode r = true
 ·rw [if_pos hf, if_pos hf]
  have := h.state hP hc
  rw [h.get] at this
  rw [this]
  exact t1.tell _ _ _
 ·rw [if_neg hf, if_neg hf]
  have hsv : (P.get c).srv.isSome = true := by rw [Bool.or_eq_true] at hs; exact hs.resolve_right hf
  obtain ⟨s, hs⟩ := Option.isSome_iff_exists.1 hsv
  have hk : checkE r.k r.key r.val = 0 := by
   rcases hP.fine c r (by rw [hw]; exact List.mem_cons_self) with e | e
   ·exact absurd (by rw [e]; rfl) hf
   ·exact e
  have hs1 : ((P.set c { P.get c with wait := l }).get c).srv = some s := by rw [get_set hc', if_pos rfl]; exact hs
  rw [show (P.get c).srv.getD 0 = s by rw [hs]; rfl]
  generalize hxp : poolO.exec P.e c s r = xp
  generalize hxh : houseO.exec H.e c s r = xh
  have hq := t1.exec m1 hs1 hk (P' := { P.set c { P.get c with wait := l } with e := xp.1, deeds := P.deeds ++ [⟨c, r, xp.2.1, xp.2.2⟩] }) (H' := { H.set c { P.get c with wait := l } with e := xh.1, deeds := P.deeds ++ [⟨c, r, xp.2.1, xp.2.2⟩] })
   (by show xp.1 = (poolO.exec P.e c s r).1; rw [hxp]) (by show xh.1 = (houseO.exec H.e c s r).1; rw [hxh]) rfl rfl rfl rfl rfl rfl t1.sent rfl
  have hx2 : xp.2 = xh.2 := by have := hq.2; rw [← hxp, ← hxh]; exact this
  have t2 := hq.1
  rw [← hx2, ← h.deeds]
  have t3 := t2.tell c xp.2.1 xp.2.2
  have m3 : MOk mode (Mach.tell { P.set c { P.get c with wait := l } with e := xp.1, deeds := P.deeds ++ [⟨c, r, xp.2.1, xp.2.2⟩] } c xp.2.1 xp.2.2) := m1.same rfl rfl rfl (by simp [Mach.tell, Mach.set, hP.s6])
  by_cases hm : mode ≠ 1 ∧ xp.2.2 = 0
  ·rw [if_pos hm, if_pos hm]
   refine t3.release m3 (by show ((P.set c { P.get c with wait := l }).get c).srv = _; exact hs1) ?_
   show (xp.1.w.at s).st = 0
   rw [← hm.2, ← hxp]; rfl
  ·rw [if_neg hm, if_neg hm]; exact t3
theorem Alike.enq (h : Alike P H) : Alike P.enq H.enq := by
 have e : enqL H = enqL P := by funext l c; unfold enqL; rw [h.get]
 have e2 : P.enq.line = H.enq.line := by unfold Mach.enq; simp only; rw [e, h.line]
 exact ⟨h.cl, h.busy, e2, h.sent, h.deeds, h.rows, h.plen, h.hlen, h.klen, h.okP, h.okH, h.hold, h.bare, h.free⟩
theorem Alike.assign (h : Alike P H) (hP : MOk mode P) : (P.assign poolO).1 = (H.assign houseO).1 ∧ Alike (P.assign poolO).2 (H.assign houseO).2 := by
 unfold Mach.assign
 rw [← h.line, ← h.busy]
 cases hl : P.line with
 | nil => exact ⟨rfl, h⟩
 | cons c l =>
  simp only
  by_cases hb : P.busy.idxOf false < P.busy.length
  ·rw [if_pos hb, if_pos hb]
   refine ⟨rfl, ?_⟩
   obtain ⟨hc, hs, hw, hr⟩ := hP.line c (by rw [hl]; exact List.mem_cons_self)
   have hc' : c < P.cl.length := by rw [hP.n6]; exact hc
   have hfree : P.busy[P.busy.idxOf false]? = some false := idx_free hb
   generalize hs0 : P.busy.idxOf false = s at *
   have hns : ∀ d, (P.get d).srv ≠ some s := fun d hd => by rw [hP.srv d s hd] at hfree; cases hfree
   have ls : s < P.e.w.ss.length := by rw [h.plen]; exact hb
   have h0 := h.free s ls hns
   have hbare := h.bare c hc hs
   have okc := sess_at h.okH (i := c) (by rw [h.hlen]; exact hc)
   rw [hbare] at okc
   have hre := restore_ok h.okP ls h0 okc.set okc.prep
   have hg : ∀ (q : Mach PE) d, q.cl = P.cl.set c { P.get c with srv := some s } → q.get d = if c = d then { P.get c with srv := some s } else P.get d := fun q d hq => by unfold Mach.get; rw [hq]; exact get_cl hc'
   have hek : poolO.grant P.e c s = ⟨P.e.w.put s ⟨0, (P.e.of c).1, (P.e.of c).2, [], []⟩, P.e.kept⟩ := by
    show (⟨restoreW P.e.w s (P.e.of c), P.e.kept⟩ : PE) = _
    rw [hre]
   refine ⟨?_, ?_, rfl, h.sent, h.deeds, ?_, ?_, h.hlen, ?_, ?_, h.okH, fun d s' hd => ?_, fun d hd hn => ?_, fun s' hl' hn => ?_⟩
   ·show P.cl.set c _ = H.cl.set c _; rw [h.cl, h.get]
   ·show P.busy.set s true = P.busy.set s true; rfl
   ·show (poolO.grant P.e c s).w.rows = H.e.rows; rw [hek]; exact h.rows
   ·show (poolO.grant P.e c s).w.ss.length = (P.busy.set s true).length; rw [hek, List.length_set]; show (P.e.w.put s _).ss.length = _; rw [wput_len]; exact h.plen
   ·show (poolO.grant P.e c s).kept.length = 6; rw [hek]; exact h.klen
   ·show WorldOk (poolO.grant P.e c s).w
    rw [hek]
    exact wput_ok h.okP ls okc (fun p hp => by cases hp)
   ·rw [hg _ d rfl] at hd
    show H.e.at d = (poolO.grant P.e c s).w.at s'
    rw [hek]
    show H.e.at d = (⟨P.e.w.rows, P.e.w.ss.set s _⟩ : Wd).at s'
    rw [set_at ls]
    by_cases e : c = d
    ·subst e
     rw [if_pos rfl] at hd
     injection hd with hd
     rw [if_pos hd]; exact hbare
    ·rw [if_neg e] at hd
     rw [if_neg (fun e' => hns d (by rw [e']; exact hd))]
     exact h.hold d s' hd
   ·rw [hg _ d rfl] at hn
    by_cases e : c = d
    ·rw [if_pos e] at hn; cases hn
    ·rw [if_neg e] at hn
     show H.e.at d = ⟨0, ((poolO.grant P.e c s).of d).1, ((poolO.grant P.e c s).of d).2, [], []⟩
     rw [hek]
     exact h.bare d hd hn
   ·show ((poolO.grant P.e c s).w.at s').st = 0
    have hl'' : s' < (poolO.grant P.e c s).w.ss.length := hl'
    rw [hek] at hl'' ⊢
    have hl''' : s' < P.e.w.ss.length := by have : s' < (P.e.w.put s _).ss.length := hl''; rw [wput_len] at this; exact this
    show ((⟨P.e.w.rows, P.e.w.ss.set s _⟩ : Wd).at s').st = 0
    rw [set_at ls, if_neg (fun e => hn c (by rw [hg _ c rfl, if_pos rfl, e]))]
    exact h.free s' hl''' (fun d hd => hn d (by rw [hg _ d rfl, if_neg (fun e => by rw [← e, hs] at hd; cases hd)]; exact hd))
  ·rw [if_neg hb, if_neg hb]; exact ⟨rfl, h⟩
theorem Alike.first (h : Alike P H) : H.firstR mode = P.firstR mode := by
 have e : (fun c => readyB mode (H.get c)) = (fun c => readyB mode (P.get c)) := by funext c; rw [h.get]
 unfold Mach.firstR; rw [e]
theorem Alike.step (h : Alike P H) (hP : MOk mode P) : (P.step poolO mode).1 = (H.step houseO mode).1 ∧ Alike (P.step poolO mode).2 (H.step houseO mode).2 := by
 unfold Mach.step
 rw [h.first]
 cases hf : P.firstR mode with
 | some c =>
  obtain ⟨hc, hr⟩ := first_some hf
  exact ⟨rfl, h.proc hP hc hr⟩
 | none => exact h.enq.assign (hP.enq hf)
theorem Alike.mu (h : Alike P H) : H.mu = P.mu := by unfold Mach.mu; rw [h.cl]
theorem Alike.iter (h : Alike P H) (hP : MOk mode P) (n : Nat) : Alike (P.iter poolO mode n) (H.iter houseO mode n) := by
 induction n generalizing P H with
 | zero => exact h
 | succ n ih =>
  have hs := h.step hP
  unfold Mach.iter
  rw [← hs.1]
  cases ht : (P.step poolO mode).1 with
  | true => simp only [if_true]; exact ih hs.2 (hP.step (o := poolO)).1
  | false => simpa using hs.2
theorem Alike.all (h : Alike P H) (hP : MOk mode P) : Alike (P.all poolO mode) (H.all houseO mode) := by
 unfold Mach.all; rw [h.mu]; exact h.iter hP _
theorem zero_ok : SessOk Sess.zero := ⟨Int.le_refl _, (by show (0 : Int) ≤ 2; decide), pairsB_nil _ _, pairsB_nil _ _, pairsB_nil _ _, pairsB_nil _ _, fun _ => rfl, fun _ => rfl⟩
theorem Alike.leave (h : Alike P H) (hP : MOk mode P) {c : Nat} (hc : c < 6) : Alike (P.leave poolO c) (H.leave houseO c) := by
 have hc' : c < P.cl.length := by rw [hP.n6]; exact hc
 have hcH : c < H.e.ss.length := by rw [h.hlen]; exact hc
 have hg : ∀ d, (P.leave poolO c).get d = if c = d then Cl.new else P.get d := fun d => get_set (m := P) hc'
 have eH : ∀ d, (H.leave houseO c).e.at d = if c = d then Sess.zero else H.e.at d := fun d => set_at (W := H.e) hcH _ _ _
 have hk : ∀ (k : List (PL × PL)) d, k = P.e.kept.set c ([], []) → k.getD d ([], []) = if c = d then ([], []) else P.e.of d := fun k d hk => by
  rw [hk, getD_set]
  by_cases e : c = d
  ·rw [if_pos e, if_pos ⟨e, by rw [h.klen]; exact hc⟩]
  ·rw [if_neg e, if_neg (fun hh => e hh.1)]; rfl
 have okH' : WorldOk (H.leave houseO c).e := wput_ok h.okH hcH zero_ok (fun p hp => by cases hp)
 have e1 : (P.leave poolO c).cl = (H.leave houseO c).cl := by show P.cl.set c _ = H.cl.set c _; rw [h.cl]
 have e2 : (P.leave poolO c).busy = (H.leave houseO c).busy := by unfold Mach.leave; simp only; rw [h.get, h.busy]
 have e3 : (P.leave poolO c).line = (H.leave houseO c).line := by unfold Mach.leave; simp only; rw [h.line]
 have hlen : (H.leave houseO c).e.ss.length = 6 := by show (H.e.put c _).ss.length = 6; rw [wput_len]; exact h.hlen
 cases hx : (P.get c).srv with
 | none =>
  have ee : (P.leave poolO c).e = ⟨P.e.w, P.e.kept.set c ([], [])⟩ := by show poolO.leave P.e c (P.get c).srv = _; rw [hx]; rfl
  have eb : (P.leave poolO c).busy = P.busy := by unfold Mach.leave; simp only; rw [hx]
  refine ⟨e1, e2, e3, h.sent, h.deeds, by rw [ee]; exact h.rows, by rw [ee, eb]; exact h.plen, hlen, by rw [ee]; simp [h.klen], by rw [ee]; exact h.okP, okH', fun d s hd => ?_, fun d hd hn => ?_, fun s hl hn => ?_⟩
  ·rw [hg] at hd
   by_cases e : c = d
   ·rw [if_pos e] at hd; cases hd
   ·rw [if_neg e] at hd
    rw [ee, eH, if_neg e]; exact h.hold d s hd
  ·rw [hg] at hn
   rw [eH]
   show _ = (⟨0, ((P.leave poolO c).e.kept.getD d ([], [])).1, ((P.leave poolO c).e.kept.getD d ([], [])).2, [], []⟩ : Sess)
   rw [hk _ d (by rw [ee])]
   by_cases e : c = d
   ·rw [if_pos e, if_pos e]; rfl
   ·rw [if_neg e] at hn ⊢; rw [if_neg e]; exact h.bare d hd hn
  ·rw [ee] at hl ⊢
   refine h.free s hl (fun d hd => hn d ?_)
   rw [hg, if_neg (fun e => by rw [← e, hx] at hd; cases hd)]; exact hd
 | some s =>
  obtain ⟨l1, l2⟩ := h.srvlt hP hx
  have ee : (P.leave poolO c).e = ⟨if (P.e.w.at s).st ≠ 0 then (doM P.e.w s 3 ⟨#[]⟩ ⟨#[]⟩).1 else P.e.w, P.e.kept.set c ([], [])⟩ := by show poolO.leave P.e c (P.get c).srv = _; rw [hx]; rfl
  have eb : (P.leave poolO c).busy = P.busy.set s false := by unfold Mach.leave; simp only; rw [hx]
  have hsx := sess_at h.okP l1
  have hroll : ∃ x : Sess, (if (P.e.w.at s).st ≠ 0 then (doM P.e.w s 3 ⟨#[]⟩ ⟨#[]⟩).1 else P.e.w) = P.e.w.put s x ∧ x.st = 0 ∧ SessOk x ∧ x.wr = [] := by
   by_cases h0 : (P.e.w.at s).st ≠ 0
   ·rw [if_pos h0]
    refine ⟨{ P.e.w.at s with st := 0, set := (P.e.w.at s).sav, sav := [], wr := [] }, ?_, rfl, ⟨Int.le_refl _, (by show (0 : Int) ≤ 2; decide), hsx.sav, hsx.prep, pairsB_nil _ _, pairsB_nil _ _, fun _ => rfl, fun _ => rfl⟩, rfl⟩
    unfold doM didM did1
    simp [h0, ok']
   ·rw [if_neg h0]
    have h0 : (P.e.w.at s).st = 0 := Classical.byContradiction h0
    exact ⟨P.e.w.at s, (put_self l1).symm, h0, hsx, hsx.tx (by omega)⟩
  obtain ⟨x, hxe, hx0, hxo, hxw⟩ := hroll
  rw [hxe] at ee
  have okw : WorldOk (P.e.w.put s x) := wput_ok h.okP l1 hxo (fun p hp => by rw [hxw] at hp; cases hp)
  refine ⟨e1, e2, e3, h.sent, h.deeds, by rw [ee]; exact h.rows, by rw [ee, eb]; show (P.e.w.put s x).ss.length = _; rw [wput_len, List.length_set]; exact h.plen, hlen, by rw [ee]; simp [h.klen], by rw [ee]; exact okw, okH', fun d s' hd => ?_, fun d hd hn => ?_, fun s' hl hn => ?_⟩
  ·rw [hg] at hd
   by_cases e : c = d
   ·rw [if_pos e] at hd; cases hd
   ·rw [if_neg e] at hd
    rw [ee, eH, if_neg e]
    show H.e.at d = (⟨P.e.w.rows, P.e.w.ss.set s x⟩ : Wd).at s'
    rw [set_at l1, if_neg (fun e' => e (hP.inj c d s hx (by rw [e']; exact hd)))]
    exact h.hold d s' hd
  ·rw [hg] at hn
   rw [eH]
   show _ = (⟨0, ((P.leave poolO c).e.kept.getD d ([], [])).1, ((P.leave poolO c).e.kept.getD d ([], [])).2, [], []⟩ : Sess)
   rw [hk _ d (by rw [ee])]
   by_cases e : c = d
   ·rw [if_pos e, if_pos e]; rfl
   ·rw [if_neg e] at hn ⊢; rw [if_neg e]; exact h.bare d hd hn
  ·rw [ee] at hl ⊢
   show ((⟨P.e.w.rows, P.e.w.ss.set s x⟩ : Wd).at s').st = 0
   rw [set_at l1]
   by_cases e : s = s'
   ·rw [if_pos e]; exact hx0
   ·rw [if_neg e]
    refine h.free s' (by have : s' < (P.e.w.put s x).ss.length := hl; rw [wput_len] at this; exact this) (fun d hd => hn d ?_)
    rw [hg, if_neg (fun e' => e (by rw [← e', hx] at hd; injection hd))]; exact hd
theorem Alike.feed (h : Alike P H) (hP : MOk mode P) {c : Nat} (hc : c < 6) (n : Nat) : Alike (P.feed poolO mode n c) (H.feed houseO mode n c) := by
 induction n generalizing P H with
 | zero => exact h
 | succ n ih =>
  have hc' : c < P.cl.length := by rw [hP.n6]; exact hc
  unfold Mach.feed
  rw [h.get]
  cases hp : pull (P.get c).bytes with
  | none => exact h
  | some q =>
   obtain ⟨k, t, j⟩ := q
   simp only
   split
   ·exact (h.all hP).leave hP.all hc
   ·refine ih (h.turn hc' rfl) (hP.turn hc (fine_app (fun q hq => hP.fine c q hq) (reqOf_fine k t)) rfl fun hl => ⟨by simp, ?_⟩)
    obtain ⟨_, _, h3, h4⟩ := hP.line c hl
    exact ready_app h3 h4
theorem Alike.deliver (h : Alike P H) (hP : MOk mode P) {c : Nat} (hc : c < 6) (d : ByteArray) : Alike (P.deliver poolO mode c d) (H.deliver houseO mode c d) := by
 unfold Mach.deliver
 rw [h.get]
 exact (h.turn (x := { P.get c with bytes := (P.get c).bytes ++ d }) (by rw [hP.n6]; exact hc) rfl).feed (hP.bytes hc _) hc _
theorem Alike.act (h : Alike P H) (hP : MOk mode P) {a : Act} (ha : actE a = 0) : Alike (P.act poolO mode a) (H.act houseO mode a) := by
 have hc : a.c.toNat < 6 := by
  unfold actE at ha
  split at ha
  ·cases ha
  split at ha
  ·cases ha
  omega
 unfold Mach.act
 split
 ·exact (h.deliver hP hc _).all (hP.deliver hc _)
 ·exact (h.leave hP hc).all (hP.leave hc)
theorem Alike.run (h : Alike P H) (hP : MOk mode P) {l : List Act} (hl : actsE l = 0) : Alike (P.run poolO mode l) (H.run houseO mode l) := by
 induction l generalizing P H with
 | nil => exact h
 | cons a l ih => exact ih (h.act hP (actsE_cons hl).1) (hP.act (actsE_cons hl).1) (actsE_cons hl).2
end
theorem zeros_at (rows : PL) (n i : Nat) : (⟨rows, List.replicate n Sess.zero⟩ : Wd).at i = Sess.zero := by
 unfold Wd.at; simp only; rw [List.getD_eq_getElem?_getD, List.getElem?_replicate]; split <;> rfl
theorem zeros_ok {n : Nat} (h : n ≤ 8) : WorldOk ⟨[], List.replicate n Sess.zero⟩ := by
 have hz : ∀ i (hi : i < (List.replicate n Sess.zero).length), (List.replicate n Sess.zero)[i] = Sess.zero := fun i hi => by simp
 refine ⟨pairsB_nil _ _, by simpa using h, fun i hi => by rw [hz i hi]; exact zero_ok, fun i hi p hp => ?_, ?_⟩
 ·rw [hz i hi] at hp; cases hp
 ·have : (List.replicate n Sess.zero).flatMap (·.wr) = [] := by
   induction n with
   | zero => rfl
   | succ n ih => rw [List.replicate_succ, List.flatMap_cons, ih (by omega) (fun i hi => by simp)]; rfl
  show (allF [] ((List.replicate n Sess.zero).flatMap (·.wr))).length ≤ 100
  rw [this]; show 0 ≤ 100; omega
theorem start_alike {n : Nat} (h : n ≤ 8) : Alike (Mach.start (poolStart n) n) (Mach.start houseStart n) := by
 have hg : ∀ c, (Mach.start (poolStart n) n).get c = Cl.new := fun c => by
  unfold Mach.get Mach.start
  simp only
  rw [List.getD_eq_getElem?_getD, List.getElem?_replicate]
  split <;> rfl
 refine ⟨rfl, rfl, rfl, rfl, rfl, rfl, by simp [Mach.start, poolStart], by simp [Mach.start, houseStart], by simp [Mach.start, poolStart], zeros_ok h, zeros_ok (by omega), (fun c s hs => by rw [hg] at hs; cases hs), fun c hc _ => ?_, fun s hl _ => ?_⟩
 ·show houseStart.at c = _
  unfold houseStart
  rw [zeros_at]
  have : (Mach.start (poolStart n) n).e.of c = ([], []) := by
   show (List.replicate 6 ([], [])).getD c ([], []) = _
   rw [List.getD_eq_getElem?_getD, List.getElem?_replicate]; split <;> rfl
  rw [this]; rfl
 ·show ((⟨[], List.replicate n Sess.zero⟩ : Wd).at s).st = 0
  rw [zeros_at]; rfl
theorem pool_house {n : Nat} (h : n ≤ 8) (mode : Int) {l : List Act} (hl : actsE l = 0) : Alike ((Mach.start (poolStart n) n).run poolO mode l) ((Mach.start houseStart n).run houseO mode l) :=
 (start_alike h).run (start_ok _ _ _) hl
structure D where
 w : Wd
 sent : List ByteArray
 deeds : List Deed
def D.tell (d : D) (c : Nat) (a : Ans) (st : Int) : D := { d with sent := d.sent.set c (d.sent.getD c ⟨#[]⟩ ++ ansM a st) }
def D.one (mode : Int) (c : Nat) (d : D) (r : Req) : D :=
 if refB mode r then d.tell c ⟨4, refuse mode r⟩ (d.w.at c).st
 else D.tell ⟨(doM d.w c r.k r.key r.val).1, d.sent, d.deeds ++ [⟨c, r, (doM d.w c r.k r.key r.val).2, ((doM d.w c r.k r.key r.val).1.at c).st⟩]⟩ c (doM d.w c r.k r.key r.val).2 ((doM d.w c r.k r.key r.val).1.at c).st
def Mach.d (m : Mach Wd) : D := ⟨m.e, m.sent, m.deeds⟩
section
variable {m : Mach Wd} {mode : Int} {c : Nat}
theorem proc_d {r : Req} {l : List Req} (hw : (m.get c).wait = r :: l) : (m.proc houseO mode c).d = m.d.one mode c r := by
 unfold Mach.proc D.one
 rw [hw]
 simp only
 by_cases hf : refB mode r = true
 ·rw [if_pos hf, if_pos hf]; rfl
 ·rw [if_neg hf, if_neg hf]
  split <;> rfl
theorem proc_cl (hc : c < m.cl.length) {r : Req} {l : List Req} (hw : (m.get c).wait = r :: l) (d : Nat) : (m.proc houseO mode c).get d = (if c = d then { m.get c with wait := l, srv := if refB mode r = false ∧ mode ≠ 1 ∧ ((m.proc houseO mode c).e.at c).st = 0 then none else (m.get c).srv } else m.get d) := by
 have hg : ∀ (q : Mach Wd) x, q.cl = m.cl.set c x → q.get d = if c = d then x else m.get d := fun q x hq => by unfold Mach.get; rw [hq]; exact get_cl hc
 unfold Mach.proc
 rw [hw]
 simp only
 by_cases hf : refB mode r = true
 ·rw [if_pos hf, hg _ { m.get c with wait := l } rfl, hf]
  by_cases e : c = d
  ·rw [if_pos e, if_pos e]; simp
  ·rw [if_neg e, if_neg e]
 ·rw [if_neg hf]
  have hf' : refB mode r = false := by simpa using hf
  generalize hx : houseO.exec m.e c ((m.get c).srv.getD 0) r = x
  have hst : x.2.2 = (x.1.at c).st := by rw [← hx]; rfl
  by_cases hm : mode ≠ 1 ∧ x.2.2 = 0
  ·rw [if_pos hm]
   have e1 : (Mach.release houseO (Mach.tell { m.set c { m.get c with wait := l } with e := x.1, deeds := m.deeds ++ [⟨c, r, x.2.1, x.2.2⟩] } c x.2.1 x.2.2) c ((m.get c).srv.getD 0)).cl = m.cl.set c { m.get c with wait := l, srv := none } := by
    show (m.cl.set c _).set c _ = _
    rw [List.set_set]
    show m.cl.set c { (m.set c { m.get c with wait := l }).get c with srv := none } = _
    rw [get_set hc, if_pos rfl]
   rw [hg _ _ e1]
   by_cases e : c = d
   ·rw [if_pos e, if_pos e, if_pos ⟨hf', hm.1, by show (x.1.at c).st = 0; rw [← hst]; exact hm.2⟩]
   ·rw [if_neg e, if_neg e]
  ·rw [if_neg hm, hg _ { m.get c with wait := l } rfl]
   by_cases e : c = d
   ·rw [if_pos e, if_pos e, if_neg (fun hh => hm ⟨hh.2.1, by rw [hst]; exact hh.2.2⟩)]
   ·rw [if_neg e, if_neg e]
end
def keyL : Nat → List UInt8
 | 0 => [97]
 | 1 => [98]
 | 2 => [114, 111, 119]
 | _ => [110, 97, 109, 101]
def keyAt (a : Nat) : ByteArray := ⟨(keyL a).toArray⟩
def numL (n : Nat) : List UInt8 := if n < 10 then [UInt8.ofNat (48 + n)] else [UInt8.ofNat (48 + n / 10), UInt8.ofNat (48 + n % 10)]
def numAt (n : Nat) : ByteArray := ⟨(numL n).toArray⟩
def valAt (b : Nat) : ByteArray := ⟨#[118]⟩ ++ numAt b
def prepAt (c b : Nat) : ByteArray :=
 match c with
 | 0 => ⟨#[103, 101, 116, 32, 97]⟩
 | 1 => ⟨#[114, 101, 97, 100, 32, 114, 111, 119]⟩
 | 2 => ⟨#[112, 117, 116, 32, 114, 111, 119, 32]⟩ ++ valAt b
 | _ => ⟨#[112, 117, 116, 32, 98, 32, 120]⟩
def rawK (k c : Nat) : Nat :=
 if k < 3 then 1 else if k < 5 then 2 else if k = 5 then 3 else if k = 6 then (if c = 0 then 4 else 5) else if k < 10 then 6 else if k < 13 then 7 else if k < 15 then 8 else if k < 18 then 9 else if k < 22 then 10 else 11
def rawKey (k a : Nat) : ByteArray := if k < 7 then ⟨#[]⟩ else keyAt a
def rawVal (k b c : Nat) : ByteArray := if k < 15 then ⟨#[]⟩ else if k < 22 then valAt b else prepAt c b
theorem keyAt_name : ∀ a, a < 4 → bndB 97 122 8 (keyAt a) = true := by decide
theorem valAt_value : ∀ b, b < 12 → bndB 33 126 20 (valAt b) = true := by decide
theorem prepAt_prep : ∀ c, c < 4 → ∀ b, b < 12 → prepB (prepAt c b) = true := by decide +kernel
theorem raw_check {k a b c3 c4 : Nat} (hk : k < 24) (ha : a < 4) (hb : b < 12) (hc3 : c3 < 3) (hc4 : c4 < 4) : checkE (rawK k c3) (rawKey k a) (rawVal k b c4) = 0 := by
 have h1 := keyAt_name a ha
 have h2 := valAt_value b hb
 have h3 := prepAt_prep c4 hc4 b hb
 have hcase : k < 3 ∨ (¬ k < 3 ∧ k < 5) ∨ k = 5 ∨ k = 6 ∨ (6 < k ∧ k < 10) ∨ (¬ k < 10 ∧ k < 13) ∨ (¬ k < 13 ∧ k < 15) ∨ (¬ k < 15 ∧ k < 18) ∨ (¬ k < 18 ∧ k < 22) ∨ ¬ k < 22 := by omega
 have small : ∀ n : Nat, 1 ≤ n → n < 6 → checkE n ⟨#[]⟩ ⟨#[]⟩ = 0 := by
  intro n h1 h6
  refine checkE_ok (by omega) ?_ ?_
  ·rw [keyB_no (by omega)]; exact empty_of rfl
  ·unfold valueB; rw [if_neg (by omega), plainV_no (by omega)]; exact empty_of rfl
 rcases hcase with h | ⟨h, h'⟩ | h | h | ⟨h, h'⟩ | ⟨h, h'⟩ | ⟨h, h'⟩ | ⟨h, h'⟩ | ⟨h, h'⟩ | h
 ·have e : rawK k c3 = 1 := by unfold rawK; rw [if_pos h]
  rw [e]; unfold rawKey rawVal; rw [if_pos (by omega), if_pos (by omega)]; exact small 1 (by omega) (by omega)
 ·have e : rawK k c3 = 2 := by unfold rawK; rw [if_neg h, if_pos h']
  rw [e]; unfold rawKey rawVal; rw [if_pos (by omega), if_pos (by omega)]; exact small 2 (by omega) (by omega)
 ·subst h
  exact small 3 (by omega) (by omega)
 ·subst h
  have e : rawK 6 c3 = 4 ∨ rawK 6 c3 = 5 := by unfold rawK; simp; omega
  rcases e with e | e
  ·rw [e]; exact small 4 (by omega) (by omega)
  ·rw [e]; exact small 5 (by omega) (by omega)
 ·have e : rawK k c3 = 6 := by unfold rawK; rw [if_neg (by omega), if_neg (by omega), if_neg (by omega), if_neg (by omega), if_pos h']
  rw [e]; unfold rawKey rawVal; rw [if_neg (by omega), if_pos (by omega)]
  exact checkE_ok (by omega) (by rw [keyB_yes (by omega)]; exact h1) (by unfold valueB; rw [if_neg (by omega), plainV_no (by omega)]; exact empty_of rfl)
 ·have e : rawK k c3 = 7 := by unfold rawK; rw [if_neg (by omega), if_neg (by omega), if_neg (by omega), if_neg (by omega), if_neg h, if_pos h']
  rw [e]; unfold rawKey rawVal; rw [if_neg (by omega), if_pos (by omega)]
  exact checkE_ok (by omega) (by rw [keyB_yes (by omega)]; exact h1) (by unfold valueB; rw [if_neg (by omega), plainV_no (by omega)]; exact empty_of rfl)
 ·have e : rawK k c3 = 8 := by unfold rawK; rw [if_neg (by omega), if_neg (by omega), if_neg (by omega), if_neg (by omega), if_neg (by omega), if_neg h, if_pos h']
  rw [e]; unfold rawKey rawVal; rw [if_neg (by omega), if_pos (by omega)]
  exact checkE_ok (by omega) (by rw [keyB_yes (by omega)]; exact h1) (by unfold valueB; rw [if_neg (by omega), plainV_no (by omega)]; exact empty_of rfl)
 ·have e : rawK k c3 = 9 := by unfold rawK; rw [if_neg (by omega), if_neg (by omega), if_neg (by omega), if_neg (by omega), if_neg (by omega), if_neg (by omega), if_neg h, if_pos h']
  rw [e]; unfold rawKey rawVal; rw [if_neg (by omega), if_neg (by omega), if_pos (by omega)]
  exact checkE_ok (by omega) (by rw [keyB_yes (by omega)]; exact h1) (by unfold valueB; rw [if_neg (by omega), plainV_yes (by omega)]; exact h2)
 ·have e : rawK k c3 = 10 := by unfold rawK; rw [if_neg (by omega), if_neg (by omega), if_neg (by omega), if_neg (by omega), if_neg (by omega), if_neg (by omega), if_neg (by omega), if_neg h, if_pos h']
  rw [e]; unfold rawKey rawVal; rw [if_neg (by omega), if_neg (by omega), if_pos (by omega)]
  exact checkE_ok (by omega) (by rw [keyB_yes (by omega)]; exact h1) (by unfold valueB; rw [if_neg (by omega), plainV_yes (by omega)]; exact h2)
 ·have e : rawK k c3 = 11 := by unfold rawK; rw [if_neg (by omega), if_neg (by omega), if_neg (by omega), if_neg (by omega), if_neg (by omega), if_neg (by omega), if_neg (by omega), if_neg (by omega), if_neg h]
  rw [e]; unfold rawKey rawVal; rw [if_neg (by omega), if_neg (by omega), if_neg h]
  exact checkE_ok (by omega) (by rw [keyB_yes (by omega)]; exact h1) (by unfold valueB; rw [if_pos (by omega)]; exact h3)
structure Raw where
 kd : Int
 a : Int
 b : Int
 c : Int
def reqR (r : Raw) : Req := ⟨rawK (pickI r.kd 24).toNat (pickI r.c 3).toNat, rawKey (pickI r.kd 24).toNat (pickI r.a 4).toNat, rawVal (pickI r.kd 24).toNat (pickI r.b 12).toNat (pickI r.c 4).toNat⟩
def Req.ok (r : Req) : Prop := checkE r.k r.key r.val = 0
theorem pick_lt (n : Int) {m : Nat} (hm : 0 < m) : (pickI n m).toNat < m := by have := pickI_bd n (m := m) (by omega); omega
theorem reqR_ok (r : Raw) : (reqR r).ok := raw_check (pick_lt r.kd (m := 24) (by omega)) (pick_lt r.a (m := 4) (by omega)) (pick_lt r.b (m := 12) (by omega)) (pick_lt r.c (m := 3) (by omega)) (pick_lt r.c (m := 4) (by omega))
theorem small_ok {n : Int} (h1 : 1 ≤ n) (h6 : n < 6) : checkE n ⟨#[]⟩ ⟨#[]⟩ = 0 := by
 refine checkE_ok (by omega) ?_ ?_
 ·rw [keyB_no (by omega)]; exact empty_of rfl
 ·unfold valueB; rw [if_neg (by omega), plainV_no (by omega)]; exact empty_of rfl
def doR (W : Wd) (i : Nat) (r : Req) : Wd × Ans := doM W i r.k r.key r.val
theorem doR_ok {W : Wd} (h : WorldOk W) {i : Nat} (hi : i < W.ss.length) {r : Req} (hr : r.ok) : WorldOk (doR W i r).1 ∧ (doR W i r).1.ss.length = W.ss.length := doM_ok h hi hr
section
variable {W : Wd} {i : Nat}
end
section
variable {W : Wd} {i : Nat}
end
def upd {α : Type} (f : Nat → α) (c : Nat) (v : α) : Nat → α := fun x => if x = c then v else f x
def Mach.b (m : Mach Wd) : Nat → ByteArray := fun c => (m.get c).bytes
def Mach.q (m : Mach Wd) : Nat → List Req := fun c => (m.get c).wait
abbrev JP := D → (Nat → ByteArray) → (Nat → List Req) → Prop
def Mach.has (m : Mach Wd) (J : JP) : Prop := J m.d m.b m.q
section
variable {mode : Int} {J : JP} {m : Mach Wd} {c : Nat}
theorem step_has (K1 : ∀ d b q c r l, c < 6 → q c = r :: l → r.fine → J d b q → J (d.one mode c r) b (upd q c l)) (h : MOk mode m) (hj : m.has J) : (m.step houseO mode).2.has J := by
 unfold Mach.step
 cases hf : m.firstR mode with
 | some x =>
  obtain ⟨hx, hr⟩ := first_some hf
  obtain ⟨r, l, hw, _⟩ := ready_wait hr
  have hc' : x < m.cl.length := by rw [h.n6]; exact hx
  have hg := fun d => proc_cl (mode := mode) hc' hw d
  have := K1 m.d m.b m.q x r l hx hw (h.fine x r (by rw [hw]; exact List.mem_cons_self)) hj
  show J (m.proc houseO mode x).d (m.proc houseO mode x).b (m.proc houseO mode x).q
  have e1 : (m.proc houseO mode x).b = m.b := by
   funext d; show ((m.proc houseO mode x).get d).bytes = (m.get d).bytes
   rw [hg]; by_cases e : x = d
   ·rw [if_pos e, e]
   ·rw [if_neg e]
  have e2 : (m.proc houseO mode x).q = upd m.q x l := by
   funext d; show ((m.proc houseO mode x).get d).wait = if d = x then l else (m.get d).wait
   rw [hg]; by_cases e : x = d
   ·rw [if_pos e, if_pos e.symm]
   ·rw [if_neg e, if_neg (fun e' => e e'.symm)]
  rw [proc_d hw, e1, e2]; exact this
 | none =>
  show Mach.has (m.enq.assign houseO).2 J
  unfold Mach.assign
  cases hl : m.enq.line with
  | nil => exact hj
  | cons c l =>
   simp only
   split
   ·have he : ∀ (q : Mach Wd) x d, q.cl = m.cl.set c { m.get c with srv := some x } → (q.get d).bytes = (m.get d).bytes ∧ (q.get d).wait = (m.get d).wait := fun q x d hq => by
     unfold Mach.get
     rw [hq, getD_set]
     by_cases e : c = d ∧ c < m.cl.length
     ·rw [if_pos e]; obtain ⟨rfl, _⟩ := e; exact ⟨rfl, rfl⟩
     ·rw [if_neg e]; exact ⟨rfl, rfl⟩
    have e1 : Mach.b { m.enq with line := l, busy := m.enq.busy.set (m.enq.busy.idxOf false) true, cl := m.enq.cl.set c { m.enq.get c with srv := some (m.enq.busy.idxOf false) }, e := houseO.grant m.enq.e c (m.enq.busy.idxOf false) } = m.b := funext fun d => (he _ _ d rfl).1
    have e2 : Mach.q { m.enq with line := l, busy := m.enq.busy.set (m.enq.busy.idxOf false) true, cl := m.enq.cl.set c { m.enq.get c with srv := some (m.enq.busy.idxOf false) }, e := houseO.grant m.enq.e c (m.enq.busy.idxOf false) } = m.q := funext fun d => (he _ _ d rfl).2
    unfold Mach.has
    rw [e1, e2]; exact hj
   ·exact hj
theorem all_has (K1 : ∀ d b q c r l, c < 6 → q c = r :: l → r.fine → J d b q → J (d.one mode c r) b (upd q c l)) (h : MOk mode m) (hj : m.has J) : (m.all houseO mode).has J :=
 all_ind (fun m => m.has J) (fun _ r => r.has J) (fun m h hj _ => ⟨step_has K1 h hj, fun r hr => hr⟩) (fun m h hj _ => step_has K1 h hj) _ m (nL _) h hj
theorem set_b (hc : c < m.cl.length) (x : Cl) : (m.set c x).b = upd m.b c x.bytes := by
 funext d; show ((m.set c x).get d).bytes = if d = c then x.bytes else (m.get d).bytes
 rw [get_set hc]; by_cases e : c = d
 ·rw [if_pos e, if_pos e.symm]
 ·rw [if_neg e, if_neg (fun e' => e e'.symm)]
theorem set_q (hc : c < m.cl.length) (x : Cl) : (m.set c x).q = upd m.q c x.wait := by
 funext d; show ((m.set c x).get d).wait = if d = c then x.wait else (m.get d).wait
 rw [get_set hc]; by_cases e : c = d
 ·rw [if_pos e, if_pos e.symm]
 ·rw [if_neg e, if_neg (fun e' => e e'.symm)]
theorem act_lt {a : Act} (ha : actE a = 0) : a.c.toNat < 6 ∧ (a.c.toNat : Int) = a.c := by
 unfold actE at ha
 split at ha
 ·cases ha
 split at ha
 ·cases ha
 omega
end
section
variable {mode : Int} {m : Mach Wd}
end
theorem one_w {mode : Int} {d : D} {c : Nat} {r : Req} : (d.one mode c r).w = if refB mode r then d.w else (doR d.w c r).1 := by
 unfold D.one; split <;> rfl
theorem one_deeds {mode : Int} {d : D} {c : Nat} {r : Req} : (d.one mode c r).deeds = if refB mode r then d.deeds else d.deeds ++ [⟨c, r, (doR d.w c r).2, ((doR d.w c r).1.at c).st⟩] := by
 unfold D.one; split <;> rfl
theorem fine_ok {mode : Int} {r : Req} (h : r.fine) (hr : ¬ refB mode r = true) : r.ok := by
 rcases h with e | e
 ·exact absurd (by rw [e]; rfl) hr
 ·exact e
section
variable {W : Wd} {c : Nat}
end
section
variable {W : Wd} {c : Nat}
end
end Go.Proofs.YtpbaobmegomfpabGreatDoor
