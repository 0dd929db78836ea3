/-
  Texts of the proof, one behind the other: Math, PoolM3, HouseM, BackLaws, HouseI, HouseS, HouseT, HouseG, HouseK, HouseL, HouseN, ItoaS.
-/
import Derived.WalkKit
import Derived.Test.YtpbaobmegomfpabGreatDoorM1
import Derived.Test.YtpbaobmegomfpabGreatDoorM20
import Derived.Test.YtpbaobmegomfpabGreatDoorM21
import Derived.Test.YtpbaobmegomfpabGreatDoorM23
import Derived.Test.YtpbaobmegomfpabGreatDoorM34
import Derived.Test.YtpbaobmegomfpabGreatDoorM18
import Derived.Test.YtpbaobmegomfpabGreatDoorM30
import Derived.Shelf.Strconv.Itoa3
import Derived.Test.YtpbaobmegomfpabGreatDoorProg
set_option linter.unusedVariables false
set_option linter.unusedSimpArgs false
set_option maxRecDepth 100000
open List renaming getElem_toArray → gTA, getElem_cons_zero → gCZ, getElem_cons_succ → gCS, setIfInBounds_toArray → sTA, set_cons_zero → sCZ, set_cons_succ → sCS
open Nat renaming le_refl → nL
namespace Go.Proofs.YtpbaobmegomfpabGreatDoor
open Go.RowKit
theorem msgs_zero (k : UInt8) (s m : ByteArray) (h : 0 < (msg k s ++ m).size) : (msg k s ++ m)[0] = k := by
 rw [get_toList]; simp [ByteArray.data_append, msg]
theorem msgs_one (k : UInt8) (s m : ByteArray) (h : 1 < (msg k s ++ m).size) : (msg k s ++ m)[1] = UInt8.ofNat s.size := by
 rw [get_toList]; simp [ByteArray.data_append, msg]
theorem msgs_text (k : UInt8) (s m : ByteArray) : (msg k s ++ m).extract 2 (2 + s.size) = s := by
 apply ba_ext
 rw [ByteArray.data_extract, Array.toList_extract, ByteArray.data_append, Array.toList_append, msg_toList]
 simp
section
variable {A B : Wd} {s c : Nat}
end
theorem doM_form {W : Wd} (h : WorldOk W) {i : Nat} (hi : i < W.ss.length) (k : Int) (key val : ByteArray) : ∃ rows x a, doM W i k key val = (⟨rows, W.ss.set i x⟩, a) := by
 obtain ⟨rows, x, a, h1, _⟩ := (Like.doM (A := W) (B := W) (s := i) (c := i) ⟨h, h, hi, hi, rfl, rfl, fun _ => rfl⟩ k key val)
 exact ⟨rows, x, a, h1⟩
section
variable {w : Wd} {s : Nat}
end
section
variable {m : Mach Wd} {mode : Int} {c : Nat}
theorem proc_busy {r : Req} {l : List Req} (hw : (m.get c).wait = r :: l) : (m.proc houseO mode c).busy = m.busy ∨ (m.proc houseO mode c).busy = m.busy.set ((m.get c).srv.getD 0) false := by
 unfold Mach.proc
 rw [hw]
 simp only
 by_cases hf : refB mode r = true
 ·rw [if_pos hf]; exact .inl rfl
 ·rw [if_neg hf]
  split
  ·exact .inr rfl
  ·exact .inl rfl
theorem proc_line' : (m.proc houseO mode c).line = m.line := by
 unfold Mach.proc
 split
 ·rfl
 ·simp only
  split
  ·rfl
  ·split <;> rfl
def canServe (m : Mach Wd) (c : Nat) : Prop := (m.get c).srv.isSome = true ∨ false ∈ m.busy
structure Lone (m : Mach Wd) (c : Nat) : Prop where
 line : m.line = []
 oth : ∀ d, d ≠ c → (m.get d).wait = []
 can : canServe m c
def Needs (mode : Int) (m : Mach Wd) (c : Nat) : Prop := (m.get c).srv.isSome = true → (m.e.at c).st ≠ 0 ∨ ∃ r l, (m.get c).wait = r :: l ∧ refB mode r = false
structure Served (mode : Int) (m : Mach Wd) (c : Nat) (r : Mach Wd) : Prop where
 d : r.d = (m.get c).wait.foldl (D.one mode c) m.d
 wait : ∀ x, (r.get x).wait = []
 line : r.line = []
 oth : ∀ x, x ≠ c → r.get x = m.get x
 bytes : (r.get c).bytes = (m.get c).bytes
 can : canServe r c
 len : r.busy.length = m.busy.length
 back : mode ≠ 1 → Needs mode m c → (r.get c).srv.isSome = true → (r.e.at c).st ≠ 0
theorem lone_nodup {l : List Nat} (h : l.Nodup) (hm : ∀ d, d ∈ l ↔ d = c) : l = [c] := by
 cases l with
 | nil => have := (hm c).2 rfl; cases this
 | cons a t =>
  have ha := (hm a).1 List.mem_cons_self
  subst ha
  cases t with
  | nil => rfl
  | cons b t =>
   have hb := (hm b).1 (by simp)
   subst hb
   rw [List.nodup_cons] at h
   exact absurd List.mem_cons_self h.1
theorem lone_all (hc : c < 6) (h : MOk mode m) (hl : Lone m c) : Served mode m c (m.all houseO mode) := by
 refine all_ind (fun m => Lone m c) (fun m r => Served mode m c r) (fun m h hl ht => ?_) (fun m h hl ht => ?_) _ m (nL _) h hl
 ·have hc' : c < m.cl.length := by rw [h.n6]; exact hc
  cases hf : m.firstR mode with
  | some x =>
   obtain ⟨hx6, hxr⟩ := first_some hf
   have hxc : x = c := Classical.byContradiction fun hne => by
    obtain ⟨r, l, hw, _⟩ := ready_wait hxr
    rw [hl.oth x hne] at hw; cases hw
   subst hxc
   obtain ⟨r, l, hw, hsv⟩ := ready_wait hxr
   have e : (m.step houseO mode).2 = m.proc houseO mode x := by unfold Mach.step; rw [hf]
   rw [e]
   have hg := fun d => proc_cl (mode := mode) hc' hw d
   have hgx : (m.proc houseO mode x).get x = { m.get x with wait := l, srv := if refB mode r = false ∧ mode ≠ 1 ∧ ((m.proc houseO mode x).e.at x).st = 0 then none else (m.get x).srv } := by rw [hg, if_pos rfl]
   have hcan : canServe (m.proc houseO mode x) x := by
    by_cases hfr : refB mode r = false ∧ mode ≠ 1 ∧ ((m.proc houseO mode x).e.at x).st = 0
    ·right
     rw [hfr.1, Bool.or_false] at hsv
     obtain ⟨s, hs⟩ := Option.isSome_iff_exists.1 hsv
     have hn : ((m.proc houseO mode x).get x).srv = none := by rw [hgx]; simp only; rw [if_pos hfr]
     have hb := h.srv x s hs
     have hP := (h.proc (o := houseO) hx6 hxr).1
     rcases proc_busy (mode := mode) hw with e1 | e1
     ·exfalso
      have hb2 : (m.proc houseO mode x).busy[s]? = some true := by rw [e1]; exact hb
      obtain ⟨y, hy⟩ := hP.own s hb2
      by_cases e2 : x = y
      ·subst e2; rw [hn] at hy; cases hy
      ·rw [hg, if_neg e2] at hy
       exact e2 (h.inj x y s hs hy)
     ·rw [e1, hs]
      show false ∈ m.busy.set s false
      have hl : s < m.busy.length := (List.getElem?_eq_some_iff.1 hb).1
      exact List.mem_iff_getElem?.2 ⟨s, List.getElem?_set_self hl⟩
    ·rcases hl.can with hcan | hcan
     ·left; rw [hgx]; simp only; rw [if_neg hfr]; exact hcan
     ·right
      rcases proc_busy (mode := mode) hw with e1 | e1
      ·rw [e1]; exact hcan
      ·rw [e1]
       obtain ⟨j, hj⟩ := List.mem_iff_getElem?.1 hcan
       by_cases ej : (m.get x).srv.getD 0 = j
       ·rw [ej]; exact List.mem_iff_getElem?.2 ⟨j, List.getElem?_set_self (List.getElem?_eq_some_iff.1 hj).1⟩
       ·exact List.mem_iff_getElem?.2 ⟨j, by rw [List.getElem?_set_ne ej]; exact hj⟩
   refine ⟨⟨by rw [proc_line']; exact hl.line, fun d hd => by rw [hg, if_neg (fun e => hd e.symm)]; exact hl.oth d hd, hcan⟩, fun r' hr' => ?_⟩
   refine ⟨?_, hr'.wait, hr'.line, fun y hy => ?_, ?_, hr'.can, ?_, fun hm hpre hsome => hr'.back hm (fun hs2 => ?_) hsome⟩
   ·rw [hr'.d, hgx, proc_d hw, hw]; rfl
   ·rw [hr'.oth y hy, hg, if_neg (fun e => hy e.symm)]
   ·rw [hr'.bytes, hgx]
   ·rw [hr'.len]
    rcases proc_busy (mode := mode) hw with e1 | e1 <;> rw [e1]
    simp
   ·rw [hgx] at hs2 ⊢
    simp only at hs2 ⊢
    left
    by_cases hrf : refB mode r = false
    ·intro h0
     rw [if_pos ⟨hrf, hm, h0⟩] at hs2; cases hs2
    ·have hrf' : refB mode r = true := by simpa using hrf
     rw [if_neg (fun hh => hrf hh.1)] at hs2
     rcases hpre hs2 with h0 | ⟨r2, l2, hw2, hr2⟩
     ·have ee : (m.proc houseO mode x).e = m.e := by
       unfold Mach.proc
       rw [hw]
       simp only
       rw [if_pos hrf']; rfl
      rw [ee]; exact h0
     ·rw [hw] at hw2
      injection hw2 with e1 e2
      rw [e1, hr2] at hrf'; cases hrf'
  | none =>
   have e : (m.step houseO mode) = m.enq.assign houseO := by unfold Mach.step; rw [hf]
   rw [e] at ht ⊢
   have hq := h.enq hf
   have hmem : ∀ d, d ∈ m.enq.line ↔ d < 6 ∧ (m.get d).wait ≠ [] := fun d => by
    show d ∈ (List.range 6).foldl (enqL m) m.line ↔ _
    rw [enq_mem, hl.line, List.mem_range]
    simp
   have hwc : (m.get c).wait ≠ [] := fun hw => by
    have : m.enq.line = [] := List.eq_nil_iff_forall_not_mem.2 fun d hd => by
     obtain ⟨_, h2⟩ := (hmem d).1 hd
     by_cases e : d = c
     ·subst e; exact h2 hw
     ·exact h2 (hl.oth d e)
    unfold Mach.assign at ht
    rw [this] at ht; cases ht
   have hline : m.enq.line = [c] := lone_nodup (enq_nodup h.nodup) fun d => by
    rw [hmem]
    exact ⟨fun ⟨_, h2⟩ => Classical.byContradiction fun hne => h2 (hl.oth d hne), fun e => by subst e; exact ⟨hc, hwc⟩⟩
   have hnr := first_none hf hc
   cases hw : (m.get c).wait with
   | nil => exact absurd hw hwc
   | cons r l =>
   unfold readyB at hnr
   rw [hw] at hnr
   simp only [Bool.or_eq_false_iff] at hnr
   have hb : m.busy.idxOf false < m.busy.length := by
    unfold Mach.assign at ht
    rw [hline] at ht
    simp only at ht
    by_cases hb : m.enq.busy.idxOf false < m.enq.busy.length
    ·exact hb
    ·rw [if_neg hb] at ht; cases ht
   have ha : (m.enq.assign houseO).2 = { m with line := [], busy := m.busy.set (m.busy.idxOf false) true, cl := m.cl.set c { m.get c with srv := some (m.busy.idxOf false) } } := by
    unfold Mach.assign
    rw [hline]
    simp only
    rw [if_pos (by exact hb)]
    rfl
   rw [ha]
   have hg : ∀ d, Mach.get { m with line := [], busy := m.busy.set (m.busy.idxOf false) true, cl := m.cl.set c { m.get c with srv := some (m.busy.idxOf false) } } d = if c = d then { m.get c with srv := some (m.busy.idxOf false) } else m.get d := fun d => get_cl hc'
   refine ⟨⟨rfl, fun d hd => by rw [hg, if_neg (fun e => hd e.symm)]; exact hl.oth d hd, .inl (by rw [hg, if_pos rfl]; rfl)⟩, fun r' hr' => ?_⟩
   refine ⟨?_, hr'.wait, hr'.line, fun y hy => ?_, ?_, hr'.can, ?_, fun hm hpre hsome => hr'.back hm (fun hs2 => ?_) hsome⟩
   ·rw [hr'.d, hg, if_pos rfl]; rfl
   ·rw [hr'.oth y hy, hg, if_neg (fun e => hy e.symm)]
   ·rw [hr'.bytes, hg, if_pos rfl]
   ·rw [hr'.len]; simp
   ·right
    exact ⟨r, l, by rw [hg, if_pos rfl]; exact hw, hnr.2⟩
 ·cases hf : m.firstR mode with
  | some x => unfold Mach.step at ht; rw [hf] at ht; cases ht
  | none =>
   have e : (m.step houseO mode) = m.enq.assign houseO := by unfold Mach.step; rw [hf]
   rw [e] at ht ⊢
   rw [assign_no ht]
   have hc' : c < m.cl.length := by rw [h.n6]; exact hc
   have hmem : ∀ d, d ∈ m.enq.line ↔ d < 6 ∧ (m.get d).wait ≠ [] := fun d => by
    show d ∈ (List.range 6).foldl (enqL m) m.line ↔ _
    rw [enq_mem, hl.line, List.mem_range]
    simp
   have hwc : (m.get c).wait = [] := Classical.byContradiction fun hwc => by
    have hline : m.enq.line = [c] := lone_nodup (enq_nodup h.nodup) fun d => by
     rw [hmem]
     exact ⟨fun ⟨_, h2⟩ => Classical.byContradiction fun hne => h2 (hl.oth d hne), fun e => by subst e; exact ⟨hc, hwc⟩⟩
    have hnr := first_none hf hc
    have hsv : (m.get c).srv.isSome = false := by
     cases hw : (m.get c).wait with
     | nil => exact absurd hw hwc
     | cons r l =>
      unfold readyB at hnr
      rw [hw] at hnr
      simp only [Bool.or_eq_false_iff] at hnr
      exact hnr.1
    have hb : m.busy.idxOf false < m.busy.length := List.idxOf_lt_length_iff.2 (hl.can.resolve_left (by rw [hsv]; simp))
    unfold Mach.assign at ht
    rw [hline] at ht
    simp only at ht
    rw [if_pos (by exact hb)] at ht; cases ht
   have hnil : m.enq.line = [] := List.eq_nil_iff_forall_not_mem.2 fun d hd => by
    obtain ⟨_, h2⟩ := (hmem d).1 hd
    by_cases e : d = c
    ·subst e; exact h2 hwc
    ·exact h2 (hl.oth d e)
   refine ⟨by rw [hwc]; rfl, fun y => ?_, hnil, fun _ _ => rfl, rfl, hl.can, rfl, fun hm hpre hsome => ?_⟩
   ·by_cases e : y = c
    ·subst e; exact hwc
    ·exact hl.oth y e
   ·rcases hpre hsome with h0 | ⟨r, l, hw, _⟩
    ·exact h0
    ·rw [hwc] at hw; cases hw
end
section
variable {W : Wd} {i : Nat}
end
section
variable {W : Wd} {i : Nat}
theorem exec_same {key t : ByteArray} (ha : atL (W.at i).prep key = some t) (hst : (W.at i).st ≠ 2) {r : Req} (hr : r = ⟨kindN (cutA t), cutA (cutB t), cutB (cutB t)⟩) (h8 : r.k ≠ 8) : doR W i ⟨8, key, ⟨#[]⟩⟩ = doR W i r := by
 subst hr
 have e : didM W i 8 key ⟨#[]⟩ = didM W i (kindN (cutA t)) (cutA (cutB t)) (cutB (cutB t)) := by
  unfold didM
  rw [if_pos rfl, if_neg hst, ha, if_neg h8]
 unfold doR doM
 simp only [e]
end
structure Kept (mode : Int) (J : JP) : Prop where
 one : ∀ d b q c r l, c < 6 → q c = r :: l → r.fine → J d b q → J (d.one mode c r) b (upd q c l)
 feed : ∀ d b q c k t j, c < 6 → pull (b c) = some (k, t, j) → k ≠ 88 → J d b q → J d (upd b c ((b c).extract j (b c).size)) (upd q c (q c ++ [reqOf k t]))
 leave : ∀ d b q c, c < 6 → J d b q → J ⟨d.w.put c Sess.zero, d.sent, d.deeds⟩ (upd b c ⟨#[]⟩) (upd q c [])
section
variable {mode : Int} {J : JP} {m : Mach Wd} {c : Nat}
theorem Kept.all (K : Kept mode J) (h : MOk mode m) (hj : m.has J) : (m.all houseO mode).has J := all_has K.one h hj
theorem upd_self {α : Type} (f : Nat → α) (c : Nat) : upd f c (f c) = f := by
 funext x; unfold upd; split
 ·rename_i h; rw [h]
 ·rfl
theorem Kept.leave' (K : Kept mode J) (h : MOk mode m) (hc : c < 6) (hj : m.has J) : (m.leave houseO c).has J := by
 have hc' : c < m.cl.length := by rw [h.n6]; exact hc
 have e1 : (m.leave houseO c).b = upd m.b c ⟨#[]⟩ := set_b (m := m) hc' Cl.new
 have e2 : (m.leave houseO c).q = upd m.q c [] := set_q (m := m) hc' Cl.new
 unfold Mach.has
 rw [e1, e2]
 exact K.leave m.d m.b m.q c hc hj
theorem Kept.feed' (K : Kept mode J) (h : MOk mode m) (hc : c < 6) (hj : m.has J) (n : Nat) : (m.feed houseO mode n c).has J := by
 induction n generalizing m with
 | zero => exact hj
 | succ n ih =>
  have hc' : c < m.cl.length := by rw [h.n6]; exact hc
  unfold Mach.feed
  cases hp : pull (m.get c).bytes with
  | none => exact hj
  | some q =>
   obtain ⟨k, t, j⟩ := q
   simp only
   split
   ·exact K.leave' h.all hc (K.all h hj)
   ·rename_i hk
    refine ih (h.turn hc (fine_app (fun q hq => h.fine c q hq) (reqOf_fine k t)) rfl fun hl => ⟨by simp, ?_⟩) ?_
    ·obtain ⟨_, _, h3, h4⟩ := h.line c hl
     exact ready_app h3 h4
    ·have := K.feed m.d m.b m.q c k t j hc hp hk hj
     unfold Mach.has
     rw [set_b hc', set_q hc']
     exact this
theorem Kept.act (J : Nat → JP) (K : ∀ T, Kept mode (J T)) (hd : ∀ T d b q c data, c < 6 → J T d b q → J (T + 1) d (upd b c (b c ++ data)) q) (hcl : ∀ T d b q, J T d b q → J (T + 1) d b q) {T : Nat} (h : MOk mode m) (hj : m.has (J T)) {a : Act} (ha : actE a = 0) : (m.act houseO mode a).has (J (T + 1)) := by
 obtain ⟨hc, _⟩ := act_lt ha
 have hc' : a.c.toNat < m.cl.length := by rw [h.n6]; exact hc
 unfold Mach.act
 split
 ·refine (K _).all (h.deliver hc _) ?_
  unfold Mach.deliver
  refine (K _).feed' (h.bytes hc _) hc ?_ _
  unfold Mach.has
  rw [set_b hc', set_q hc']
  have := hd T m.d m.b m.q a.c.toNat a.data hc hj
  show J (T + 1) m.d (upd m.b a.c.toNat (m.b a.c.toNat ++ a.data)) (upd m.q a.c.toNat (m.q a.c.toNat))
  rw [upd_self]; exact this
 ·exact (K _).all (h.leave hc) ((K _).leave' h hc (hcl T _ _ _ hj))
end
section
variable {mode : Int} {m : Mach Wd}
end
def HOk (d : D) : Prop := WorldOk d.w ∧ d.w.ss.length = 6
theorem hok_one {mode : Int} {d : D} {c : Nat} {r : Req} (hc : c < 6) (hr : r.fine) (h : HOk d) : HOk (d.one mode c r) := by
 unfold HOk
 rw [one_w]
 split
 ·exact h
 ·rename_i hn
  have := doR_ok h.1 (i := c) (by rw [h.2]; exact hc) (fine_ok hr hn)
  exact ⟨this.1, this.2.trans h.2⟩
theorem hok_leave {d : D} {c : Nat} (hc : c < 6) (h : HOk d) : HOk ⟨d.w.put c Sess.zero, d.sent, d.deeds⟩ :=
 ⟨wput_ok h.1 (by rw [h.2]; exact hc) zero_ok (fun p hp => by cases hp), by show (d.w.put c _).ss.length = 6; rw [wput_len]; exact h.2⟩
theorem hok_start (n : Nat) : HOk (Mach.start houseStart n).d := ⟨zeros_ok (by omega), by simp [Mach.start, Mach.d, houseStart]⟩
section
variable {W : Wd} {c : Nat}
end
theorem other_at {W : Wd} (h : WorldOk W) {c : Nat} (hc : c < W.ss.length) (r : Req) {x : Nat} (hx : x ≠ c) : (doR W c r).1.at x = W.at x := by
 obtain ⟨rows, y, a, e⟩ := doM_form h hc r.k r.key r.val
 unfold doR
 rw [e, set_at hc, if_neg (fun e => hx e.symm)]
theorem house_at (x : Nat) : houseStart.at x = Sess.zero := zeros_at _ _ _
section
variable {W : Wd} {c : Nat}
end
section
variable {E : Type} {o : Ops E} {mode : Int} {m : Mach E} {c : Nat}
theorem set_same (hc : c < m.cl.length) : m.set c (m.get c) = m := by
 unfold Mach.set; rw [get_lt hc, List.set_getElem_self]
theorem set_twice (x y : Cl) : (m.set c x).set c y = m.set c y := by unfold Mach.set; simp
theorem feed_eq (n : Nat) : ∀ {m : Mach E}, c < m.cl.length → m.feed o mode n c =
  if (pulls n (m.get c).bytes).2.2 then ((m.set c { m.get c with bytes := (pulls n (m.get c).bytes).2.1, wait := (m.get c).wait ++ (pulls n (m.get c).bytes).1 }).all o mode).leave o c
  else m.set c { m.get c with bytes := (pulls n (m.get c).bytes).2.1, wait := (m.get c).wait ++ (pulls n (m.get c).bytes).1 } := by
 induction n with
 | zero => intro m hc; unfold Mach.feed pulls; simp [set_same hc]
 | succ n ih =>
  intro m hc
  unfold Mach.feed pulls
  cases hp : pull (m.get c).bytes with
  | none => simp [set_same hc]
  | some q =>
   obtain ⟨k, t, j⟩ := q
   simp only
   by_cases hk : k = 88
   ·rw [if_pos hk, if_pos hk]; simp [set_same hc]
   ·rw [if_neg hk, if_neg hk]
    have hc2 : c < (m.set c { m.get c with bytes := (m.get c).bytes.extract j (m.get c).bytes.size, wait := (m.get c).wait ++ [reqOf k t] }).cl.length := by simpa [Mach.set] using hc
    rw [ih hc2, get_set hc, if_pos rfl]
    simp only [set_twice, List.append_assoc, List.singleton_append]
end
structure Calm (mode : Int) (m : Mach Wd) : Prop where
 ok : MOk mode m
 line : m.line = []
 wait : ∀ c, (m.get c).wait = []
section
variable {mode : Int} {m : Mach Wd} {c : Nat}
theorem so_ext {a b : So} (h1 : a.d = b.d) (h2 : a.b = b.b) : a = b := by cases a; cases b; simp at h1 h2; rw [h1, h2]
def Holds (m : Mach Wd) : Prop := ∀ x, (m.get x).srv.isSome = true → (m.e.at x).st ≠ 0
structure After (mode : Int) (m : Mach Wd) (c : Nat) (r : Mach Wd) (s : So) : Prop where
 calm : Calm mode r
 so : r.so = s
 oth : ∀ x, x ≠ c → r.get x = m.get x
 len : r.busy.length = m.busy.length
 hold : mode ≠ 1 → Holds m → Holds r
theorem leave_get (h : MOk mode m) (hc : c < 6) (x : Nat) : (m.leave houseO c).get x = if c = x then Cl.new else m.get x :=
 get_cl (m := m) (by rw [h.n6]; exact hc)
theorem leave_len : (m.leave houseO c).busy.length = m.busy.length := by
 unfold Mach.leave; simp only; split <;> simp
theorem leave_at (h : MOk mode m) (hc : c < m.e.ss.length) (x : Nat) : (m.leave houseO c).e.at x = if c = x then Sess.zero else m.e.at x := set_at (W := m.e) hc m.e.rows Sess.zero x
theorem leave_can (h : MOk mode m) (hc : c < 6) (hcan : canServe m c) : false ∈ (m.leave houseO c).busy := by
 unfold Mach.leave
 simp only
 cases hs : (m.get c).srv with
 | none =>
  rcases hcan with h1 | h1
  ·rw [hs] at h1; cases h1
  ·exact h1
 | some s =>
  have hb := h.srv c s hs
  exact List.mem_iff_getElem?.2 ⟨s, List.getElem?_set_self (List.getElem?_eq_some_iff.1 hb).1⟩
theorem leave_after (h : Calm mode m) (hc : c < 6) (h6 : m.e.ss.length = 6) (hcan : canServe m c) : After mode m c ((m.leave houseO c).all houseO mode) ⟨m.d.gone c, upd m.b c ⟨#[]⟩⟩ := by
 have hl := h.ok.leave (o := houseO) hc
 have hg := fun x => leave_get h.ok hc x
 have hw : ∀ x, ((m.leave houseO c).get x).wait = [] := fun x => by rw [hg]; split; rfl; exact h.wait x
 have lone : Lone (m.leave houseO c) c := ⟨by show m.line.filter _ = []; rw [h.line]; rfl, fun d _ => hw d, .inr (leave_can h.ok hc hcan)⟩
 have S := lone_all hc hl lone
 have Sd : ((m.leave houseO c).all houseO mode).d = m.d.gone c := by rw [S.d, hw]; rfl
 have hget : ∀ x, ((m.leave houseO c).all houseO mode).get x = if c = x then ((m.leave houseO c).all houseO mode).get c else m.get x := fun x => by
  by_cases e : c = x
  ·rw [if_pos e, e]
  ·rw [if_neg e, S.oth x (fun e' => e e'.symm), hg, if_neg e]
 have hoth : ∀ x, x ≠ c → ((m.leave houseO c).all houseO mode).get x = m.get x := fun x hx => by rw [hget, if_neg (fun e => hx e.symm)]
 refine ⟨⟨hl.all, S.line, S.wait⟩, so_ext Sd ?_, hoth, by rw [S.len, leave_len], fun hm hh x hx => ?_⟩
 ·show ((m.leave houseO c).all houseO mode).b = _
  funext x
  show (((m.leave houseO c).all houseO mode).get x).bytes = if x = c then (⟨#[]⟩ : ByteArray) else (m.get x).bytes
  by_cases e : x = c
  ·subst e; rw [if_pos rfl, S.bytes, hg, if_pos rfl]; rfl
  ·rw [if_neg e, hoth x e]
 ·by_cases e : x = c
  ·subst e
   refine S.back hm (fun hs => ?_) hx
   rw [hg, if_pos rfl] at hs; cases hs
  ·have he : ((m.leave houseO c).all houseO mode).e = (m.leave houseO c).e := congrArg D.w Sd
   rw [he, leave_at h.ok (by rw [h6]; exact hc), if_neg (fun e' => e e'.symm)]
   rw [hoth x e] at hx
   exact hh x hx
theorem ones_len {mode : Int} {c : Nat} (hc : c < 6) : ∀ {l : List Req} {d : D}, (∀ r ∈ l, r.fine) → HOk d → HOk (l.foldl (D.one mode c) d)
 | [], d, _, h => h
 | r :: l, d, hr, h => ones_len (l := l) hc (fun q hq => hr q (List.mem_cons_of_mem _ hq)) (hok_one hc (hr r List.mem_cons_self) h)
theorem ones_other {mode : Int} {c x : Nat} (hc : c < 6) (hx : x ≠ c) : ∀ {l : List Req} {d : D}, (∀ r ∈ l, r.fine) → HOk d → (l.foldl (D.one mode c) d).w.at x = d.w.at x
 | [], d, _, h => rfl
 | r :: l, d, hr, h => by
  have h1 := hok_one (mode := mode) hc (hr r List.mem_cons_self) h
  show (l.foldl (D.one mode c) (d.one mode c r)).w.at x = _
  rw [ones_other (l := l) hc hx (fun q hq => hr q (List.mem_cons_of_mem _ hq)) h1, one_w]
  split
  ·rfl
  ·exact other_at h.1 (by rw [h.2]; exact hc) r hx
theorem pulls_fine : ∀ (n : Nat) (b : ByteArray), ∀ r ∈ (pulls n b).1, r.fine
 | 0, b, r, h => by cases h
 | n + 1, b, r, h => by
  unfold pulls at h
  cases hp : pull b with
  | none => rw [hp] at h; cases h
  | some q =>
   obtain ⟨k, t, j⟩ := q
   rw [hp] at h
   simp only at h
   split at h
   ·cases h
   ·rcases List.mem_cons.1 h with e | h
    ·rw [e]; exact reqOf_fine k t
    ·exact pulls_fine n _ r h
theorem deliver_after (h : Calm mode m) (hd : HOk m.d) (hc : c < 6) (hcan : canServe m c) (data : ByteArray) : After mode m c ((m.deliver houseO mode c data).all houseO mode) (So.act mode m.so ⟨1, c, data⟩) := by
 have hc' : c < m.cl.length := by rw [h.ok.n6]; exact hc
 have hb := h.ok.bytes hc ((m.get c).bytes ++ data)
 have hfuel : (m.get c).bytes.size + data.size + 1 = ((m.get c).bytes ++ data).size + 1 := by simp
 have hdel : m.deliver houseO mode c data = if (pullsA ((m.get c).bytes ++ data)).2.2 then ((m.set c { m.get c with bytes := (pullsA ((m.get c).bytes ++ data)).2.1, wait := (pullsA ((m.get c).bytes ++ data)).1 }).all houseO mode).leave houseO c
   else m.set c { m.get c with bytes := (pullsA ((m.get c).bytes ++ data)).2.1, wait := (pullsA ((m.get c).bytes ++ data)).1 } := by
  unfold Mach.deliver
  rw [hfuel, feed_eq _ (by simpa [Mach.set] using hc'), get_set hc', if_pos rfl]
  simp only [set_twice, h.wait c, List.nil_append]
  rfl
 have hfine := pulls_fine (((m.get c).bytes ++ data).size + 1) ((m.get c).bytes ++ data)
 rw [hdel]
 have hact : So.act mode m.so ⟨1, c, data⟩ = if (pullsA ((m.get c).bytes ++ data)).2.2 then ⟨((pullsA ((m.get c).bytes ++ data)).1.foldl (D.one mode c) m.d).gone c, upd m.b c ⟨#[]⟩⟩ else ⟨(pullsA ((m.get c).bytes ++ data)).1.foldl (D.one mode c) m.d, upd m.b c (pullsA ((m.get c).bytes ++ data)).2.1⟩ := by
  unfold So.act
  rw [if_pos rfl]; rfl
 rw [hact]
 clear hact hdel hfuel
 have hrs : ∀ r ∈ (pullsA ((m.get c).bytes ++ data)).1, r.fine := hfine
 clear hfine
 generalize pullsA ((m.get c).bytes ++ data) = p at *
 obtain ⟨rs, rest, gone⟩ := p
 simp only at hrs ⊢
 have hm1 : MOk mode (m.set c { m.get c with bytes := rest, wait := rs }) := h.ok.turn hc hrs rfl (fun hl => by rw [h.line] at hl; cases hl)
 have hg1 := fun x => get_set (m := m) (d := x) (x := { m.get c with bytes := rest, wait := rs }) hc'
 have lone : Lone (m.set c { m.get c with bytes := rest, wait := rs }) c := ⟨h.line, fun d hd => by rw [hg1, if_neg (fun e => hd e.symm)]; exact h.wait d, by
  rcases hcan with h1 | h1
  ·left; rw [hg1, if_pos rfl]; exact h1
  ·right; exact h1⟩
 have S := lone_all hc hm1 lone
 generalize hr : (m.set c { m.get c with bytes := rest, wait := rs }).all houseO mode = r at *
 have hok : MOk mode r := by rw [← hr]; exact hm1.all
 have Sd : r.d = rs.foldl (D.one mode c) m.d := by rw [S.d, hg1, if_pos rfl]; rfl
 have hoth : ∀ x, x ≠ c → r.get x = m.get x := fun x hx => by rw [S.oth x hx, hg1, if_neg (fun e => hx e.symm)]
 have hbb : r.b = upd m.b c rest := by
  funext x
  show (r.get x).bytes = if x = c then rest else (m.get x).bytes
  by_cases e : x = c
  ·subst e; rw [if_pos rfl, S.bytes, hg1, if_pos rfl]
  ·rw [if_neg e, hoth x e]
 have hold : mode ≠ 1 → Holds m → Holds r := fun hm hh x hx => by
  by_cases e : x = c
  ·subst e
   refine S.back hm (fun hs => .inl ?_) hx
   rw [hg1, if_pos rfl] at hs
   exact hh x hs
  ·rw [hoth x e] at hx
   have : r.e.at x = m.e.at x := by
    have e1 : r.e = (rs.foldl (D.one mode c) m.d).w := congrArg D.w Sd
    rw [e1]; exact ones_other hc e hrs hd
   rw [this]; exact hh x hx
 have hd' : HOk r.d := by rw [Sd]; exact ones_len hc hrs hd
 cases gone with
 | false =>
  simp only [Bool.false_eq_true, if_false]
  rw [hr]
  exact ⟨⟨hok, S.line, S.wait⟩, so_ext Sd hbb, hoth, S.len, hold⟩
 | true =>
  simp only [if_true]
  have L := leave_after ⟨hok, S.line, S.wait⟩ hc hd'.2 S.can
  refine ⟨L.calm, ?_, fun x hx => (L.oth x hx).trans (hoth x hx), L.len.trans S.len, fun hm hh => L.hold hm (hold hm hh)⟩
  rw [L.so, Sd, hbb]
  refine so_ext rfl ?_
  funext x
  show (if x = c then _ else if x = c then rest else m.b x) = (if x = c then _ else m.b x)
  by_cases e : x = c
  ·rw [if_pos e, if_pos e]
  ·rw [if_neg e, if_neg e, if_neg e]
theorem act_after (h : Calm mode m) (hd : HOk m.d) {a : Act} (ha : actE a = 0) (hcan : canServe m a.c.toNat) : After mode m a.c.toNat (m.act houseO mode a) (So.act mode m.so a) ∧ HOk (m.act houseO mode a).d := by
 obtain ⟨hc, hcc⟩ := act_lt ha
 have A : After mode m a.c.toNat (m.act houseO mode a) (So.act mode m.so a) := by
  unfold Mach.act
  by_cases hk : a.kind = 1
  ·rw [if_pos hk]
   have := deliver_after h hd hc hcan a.data
   have e : So.act mode m.so ⟨1, (a.c.toNat : Int), a.data⟩ = So.act mode m.so a := by unfold So.act; simp only [hk, Int.toNat_natCast]
   rw [e] at this; exact this
  ·rw [if_neg hk]
   have := leave_after h hc hd.2 hcan
   have e : So.act mode m.so a = ⟨m.d.gone a.c.toNat, upd m.b a.c.toNat ⟨#[]⟩⟩ := by unfold So.act; rw [if_neg hk]; rfl
   rw [e]; exact this
 refine ⟨A, ?_⟩
 exact Kept.act (fun _ => fun d _ _ => HOk d) (fun _ => ⟨fun d b q c r l hc _ hr hi => hok_one hc hr hi, fun d b q c k t j _ _ _ hi => hi, fun d b q c hc hi => hok_leave hc hi⟩) (fun T d b q c data _ hi => hi) (fun T d b q hi => hi) (T := 0) h.ok hd ha
end
section
variable {mode : Int} {m : Mach Wd} {c : Nat}
theorem start_calm (n : Nat) : Calm mode (Mach.start houseStart n) :=
 ⟨start_ok _ _ _, rfl, fun c => by unfold Mach.get Mach.start; simp only; rw [List.getD_eq_getElem?_getD, List.getElem?_replicate]; split <;> rfl⟩
theorem start_srv (n x : Nat) : ((Mach.start houseStart n).get x).srv = none := by
 unfold Mach.get Mach.start; simp only; rw [List.getD_eq_getElem?_getD, List.getElem?_replicate]; split <;> rfl
end
theorem ext_app {b y : ByteArray} {j : Nat} (hj : j ≤ b.size) : (b ++ y).extract j (b ++ y).size = b.extract j b.size ++ y := ba_ext (by
 rw [ext_list, ByteArray.data_append, Array.toList_append, ByteArray.data_append, Array.toList_append, ext_list]
 have h1 : (b ++ y).size = (b.data.toList ++ y.data.toList).length := by simp
 rw [h1, List.take_length, List.take_of_length_le (by simp), List.drop_append_of_le_length (by simpa using hj)])
theorem pulls_more : ∀ (n k : Nat) (b : ByteArray), b.size < n → b.size < k → pulls n b = pulls k b
 | 0, k, b, h, _ => absurd h (by omega)
 | n + 1, 0, b, _, h => absurd h (by omega)
 | n + 1, k + 1, b, hn, hk => by
  unfold pulls
  cases hp : pull b with
  | none => rfl
  | some q =>
   obtain ⟨kk, t, j⟩ := q
   obtain ⟨h2, _, hj, _, _⟩ := pull_some hp
   simp only
   rw [pulls_more n k (b.extract j b.size) (by rw [ext_size]; omega) (by rw [ext_size]; omega)]
theorem pullsA_none {b : ByteArray} (h : pull b = none) : pullsA b = ([], b, false) := by unfold pullsA pulls; rw [h]
theorem pullsA_some {b : ByteArray} {k : UInt8} {t : ByteArray} {j : Nat} (h : pull b = some (k, t, j)) (hk : k ≠ 88) : pullsA b = (reqOf k t :: (pullsA (b.extract j b.size)).1, (pullsA (b.extract j b.size)).2.1, (pullsA (b.extract j b.size)).2.2) := by
 obtain ⟨h2, _, hj, _, hle⟩ := pull_some h
 have e : pulls b.size (b.extract j b.size) = pullsA (b.extract j b.size) := pulls_more _ _ _ (by rw [ext_size]; omega) (by omega)
 unfold pullsA
 rw [show pulls (b.size + 1) b = _ from by unfold pulls; rw [h]]
 simp only
 rw [if_neg hk, e]; rfl
section
variable {mode : Int}
end
section
variable {mode : Int} {m : Mach Wd} {c : Nat}
end
section
variable {mode : Int} {m : Mach Wd} {c : Nat}
theorem close_E {i : Nat} (h : i < 6) : actE ⟨2, i, ⟨#[]⟩⟩ = 0 := by
 unfold actE
 rw [if_neg (by simp), if_neg (by simp only; omega), if_neg (by show ¬ (1000 < 0); omega)]
end
section
variable {E : Type} {o : Ops E} {mode : Int}
end
section
variable {mode : Int} {m : Mach Wd} {c : Nat}
theorem pull_msg (k : UInt8) (t y : ByteArray) (h : t.size < 256) : pull (msg k t ++ y) = some (k, t, 2 + t.size) := by
 have hs : (msg k t ++ y).size = t.size + 2 + y.size := by rw [ByteArray.size_append, msg_size]
 have e1 : ((msg k t ++ y)[1]'(by omega)).toNat = t.size := by
  rw [msgs_one k t y (by omega)]; simp; omega
 unfold pull
 rw [dif_pos (by omega)]
 simp only [e1]
 rw [if_pos (by omega), msgs_zero k t y (by omega), msgs_text]
theorem msg_rest (k : UInt8) (t y : ByteArray) : (msg k t ++ y).extract (2 + t.size) (msg k t ++ y).size = y := by
 rw [ext_app (by rw [msg_size]; omega)]
 have : (msg k t).extract (2 + t.size) (msg k t).size = ⟨#[]⟩ := ba_ext (by
  rw [ext_list, List.drop_eq_nil_of_le (by simp [msg_size]; omega)])
 rw [this]
 exact ba_ext (by simp)
theorem pullsA_msg {k : UInt8} {t y : ByteArray} (h : t.size < 256) (hk : k ≠ 88) : pullsA (msg k t ++ y) = (reqOf k t :: (pullsA y).1, (pullsA y).2.1, (pullsA y).2.2) := by
 rw [pullsA_some (pull_msg k t y h) hk, msg_rest]
theorem pull_empty : pull ⟨#[]⟩ = none := by unfold pull; rw [dif_neg (by decide)]
theorem pullsA_empty : pullsA ⟨#[]⟩ = ([], ⟨#[]⟩, false) := pullsA_none pull_empty
theorem reqOf_text {k : Nat} {key v : ByteArray} (h : checkE k key v = 0) : reqOf 81 (textOf k key v) = ⟨k, key, v⟩ := by
 obtain ⟨h1, h2, h3, h4⟩ := read_text h
 unfold reqOf
 rw [if_pos ⟨rfl, h4⟩, h1, h2, h3]
end
def Deed.told (x : Deed) : ByteArray := tellT x.a.kind.toNat x.st.toNat x.a.text
def catM : List ByteArray → ByteArray
 | [] => ⟨#[]⟩
 | t :: l => msg 82 t ++ catM l
section
variable {mode : Int} {m : Mach Wd}
end
theorem one_did {mode : Int} {d : D} {c : Nat} {r : Req} {W : Wd} {a : Ans} {st : Int} (hf : refB mode r = false) (h : doR d.w c r = (W, a)) (hs : (W.at c).st = st) : d.one mode c r = ⟨W, d.sent.set c (d.sent.getD c ⟨#[]⟩ ++ ansM a st), d.deeds ++ [⟨c, r, a, st⟩]⟩ := by
 have h' : doM d.w c r.k r.key r.val = (W, a) := h
 unfold D.one
 rw [if_neg (by rw [hf]; simp), h', hs]
 rfl
theorem refB_no {mode : Int} {r : Req} (h0 : r.k ≠ 0) (h1 : r.k = 1 → mode ≠ 3) : refB mode r = false := decide_eq_false fun h => h.elim h0 fun hh => h1 hh.1 hh.2
theorem msg_app_nil (x : ByteArray) : (⟨#[]⟩ : ByteArray) ++ x = x := ba_ext (by simp)
theorem app_nil (x : ByteArray) : x ++ (⟨#[]⟩ : ByteArray) = x := ba_ext (by simp)
def catQ : List ByteArray → ByteArray
 | [] => ⟨#[]⟩
 | t :: l => msg 81 t ++ catQ l
theorem pullsA_catQ : ∀ (l : List ByteArray), (∀ t ∈ l, t.size < 256) → pullsA (catQ l) = (l.map (reqOf 81), ⟨#[]⟩, false)
 | [], _ => pullsA_empty
 | t :: l, h => by
  show pullsA (msg 81 t ++ catQ l) = _
  rw [pullsA_msg (h t List.mem_cons_self) (by decide), pullsA_catQ l (fun x hx => h x (List.mem_cons_of_mem _ hx))]
  rfl
section
variable {mode : Int} {m : Mach Wd} {c : Nat}
theorem so_msgs {s : So} {l : List ByteArray} (hb : s.b c = ⟨#[]⟩) (h : ∀ t ∈ l, t.size < 256) : So.act mode s ⟨1, (c : Int), catQ l⟩ = ⟨(l.map (reqOf 81)).foldl (D.one mode c) s.d, s.b⟩ := by
 unfold So.act
 rw [if_pos rfl]
 simp only [Int.toNat_natCast]
 rw [hb, msg_app_nil, pullsA_catQ l h]
 simp only [Bool.false_eq_true, if_false]
 refine so_ext rfl ?_
 show upd s.b c ⟨#[]⟩ = s.b
 rw [← hb]; exact upd_self _ _
def kA : ByteArray := ⟨#[97]⟩
def tGetA : ByteArray := ⟨#[103, 101, 116, 32, 97]⟩
theorem kA_name : bndB 97 122 8 kA = true := by decide
theorem get_check {key : ByteArray} (h : bndB 97 122 8 key = true) {k : Nat} (hk : 6 ≤ k ∧ k ≤ 8) : checkE k key ⟨#[]⟩ = 0 := by
 refine checkE_ok (by omega) (by rw [keyB_yes (by omega)]; exact h) ?_
 unfold valueB; rw [if_neg (by omega), plainV_no (by omega)]; exact empty_of rfl
theorem get_zero {W : Wd} (h : W.at c = Sess.zero) (key : ByteArray) : doR W c ⟨6, key, ⟨#[]⟩⟩ = (W, ⟨3, ⟨#[]⟩⟩) := by
 simp [doR, doM, didM, did1, h, Sess.zero, atL, fnd']
theorem exe_zero {W : Wd} (h : W.at c = Sess.zero) (key : ByteArray) : doR W c ⟨8, key, ⟨#[]⟩⟩ = (W, ⟨4, tNotPrep⟩) := by
 simp [doR, doM, didM, did1, h, Sess.zero, atL, no']
def tInone : ByteArray := ⟨#[73, 110, 111, 110, 101]⟩
def tIprep : ByteArray := ⟨#[73, 33, 110, 111, 116, 32, 112, 114, 101, 112, 97, 114, 101, 100]⟩
theorem ans_none : ansM ⟨3, ⟨#[]⟩⟩ 0 = msg 82 tInone := rfl
theorem ans_prep : ansM ⟨4, tNotPrep⟩ 0 = msg 82 tIprep := rfl
end
def msgR (r : Req) : ByteArray := textOf r.k.toNat r.key r.val
theorem text_size {k : Nat} {key v : ByteArray} (h : checkE k key v = 0) : (textOf k key v).size ≤ 60 := by
 obtain ⟨_, _, _, h4⟩ := read_text h
 rcases Nat.lt_or_ge 60 (textOf k key v).size with h' | h'
 ·rw [readE_long h'] at h4; cases h4
 ·exact h'
theorem req_nat {r : Req} (h : r.ok) : ((r.k.toNat : Nat) : Int) = r.k := by have := (good_of h).lo; omega
theorem reqOf_msgR {r : Req} (h : r.ok) : reqOf 81 (msgR r) = r := by
 have h' : checkE (r.k.toNat : Nat) r.key r.val = 0 := by rw [req_nat h]; exact h
 unfold msgR
 rw [reqOf_text h', req_nat h]
theorem msgR_size {r : Req} (h : r.ok) : (msgR r).size ≤ 60 := text_size (by rw [req_nat h]; exact h)
theorem held_set {ss : List Sess} {s : Nat} (x : Sess) (key : ByteArray) : heldB (ss.set s x) s key = heldB ss s key := by
 rw [Bool.eq_iff_iff, heldB_iff, heldB_iff]
 constructor
 ·rintro ⟨k, hk, h1, h2⟩
  have hne : s ≠ k := fun e => h2 (by rw [e])
  rw [List.length_set] at hk
  rw [List.getElem_set_ne hne] at h1
  exact ⟨k, hk, h1, h2⟩
 ·rintro ⟨k, hk, h1, h2⟩
  have hne : s ≠ k := fun e => h2 (by rw [e])
  exact ⟨k, by rw [List.length_set]; exact hk, by rw [List.getElem_set_ne hne]; exact h1, h2⟩
theorem Like.step {A B : Wd} {s c : Nat} (h : Like A B s c) {r : Req} (hr : r.ok) : Like (doR A s r).1 (doR B c r).1 s c ∧ (doR A s r).2 = (doR B c r).2 := by
 obtain ⟨rows, x, a, h1, h2⟩ := h.doM r.k r.key r.val
 have hA := doR_ok h.a h.hs hr
 have hB := doR_ok h.b h.hc hr
 have e1 : doR A s r = (⟨rows, A.ss.set s x⟩, a) := h1
 have e2 : doR B c r = (⟨rows, B.ss.set c x⟩, a) := h2
 rw [e1] at hA ⊢
 rw [e2] at hB ⊢
 refine ⟨⟨hA.1, hB.1, by rw [hA.2]; exact h.hs, by rw [hB.2]; exact h.hc, rfl, ?_, fun key => ?_⟩, rfl⟩
 ·show Wd.at ⟨rows, A.ss.set s x⟩ s = Wd.at ⟨rows, B.ss.set c x⟩ c
  rw [set_at h.hs, set_at h.hc, if_pos rfl, if_pos rfl]
 ·show heldB (A.ss.set s x) s key = heldB (B.ss.set c x) c key
  rw [held_set, held_set, h.held]
section
variable {mode : Int} {m : Mach Wd} {c : Nat}
theorem can_solo (h : MOk mode m) (hn : 1 ≤ m.busy.length) (ho : ∀ x, x ≠ c → (m.get x).srv = none) : canServe m c := by
 cases e : m.busy[0]'(by omega) with
 | false => exact .inr (by rw [← e]; exact List.getElem_mem _)
 | true =>
  obtain ⟨x, hx⟩ := h.own 0 (by rw [List.getElem?_eq_getElem (by omega), e])
  by_cases ex : x = c
  ·rw [ex] at hx; exact .inl (by rw [hx]; rfl)
  ·rw [ho x ex] at hx; cases hx
end
section
variable {mode : Int} {m : Mach Wd} {c : Nat}
structure Idle (mode : Int) (m : Mach Wd) : Prop where
 calm : Calm mode m
 hd : HOk m.d
 hold : Holds m
 st : ∀ x, (m.e.at x).st = 0
 n1 : 1 ≤ m.busy.length
 b : ∀ x, m.b x = ⟨#[]⟩
theorem Idle.can (h : Idle mode m) (c : Nat) : canServe m c :=
 can_solo h.calm.ok h.n1 fun x _ => by
  cases e : (m.get x).srv with
  | none => rfl
  | some s => exact absurd (h.st x) (h.hold x (by rw [e]; rfl))
theorem catQ_size : ∀ {l : List ByteArray}, (∀ t ∈ l, t.size ≤ 60) → (catQ l).size ≤ 62 * l.length
 | [], _ => nL _
 | t :: l, h => by
  show (msg 81 t ++ catQ l).size ≤ _
  rw [ByteArray.size_append, msg_size]
  have := catQ_size (l := l) fun x hx => h x (List.mem_cons_of_mem _ hx)
  have := h t List.mem_cons_self
  simp only [List.length_cons]
  omega
theorem Idle.act (h : Idle mode m) (hm : mode ≠ 1) (hc : c < 6) {l : List Req} (hr : ∀ r ∈ l, r.ok) (hl : l.length ≤ 10) (hst : ∀ x, ((l.foldl (D.one mode c) m.d).w.at x).st = 0) :
  Idle mode (m.act houseO mode ⟨1, (c : Int), catQ (l.map msgR)⟩) ∧ (m.act houseO mode ⟨1, (c : Int), catQ (l.map msgR)⟩).d = l.foldl (D.one mode c) m.d := by
 have hsz : ∀ t ∈ l.map msgR, t.size ≤ 60 := fun t ht => by
  obtain ⟨r, hr', rfl⟩ := List.mem_map.1 ht
  exact msgR_size (hr r hr')
 have ha : actE ⟨1, (c : Int), catQ (l.map msgR)⟩ = 0 := by
  have := catQ_size hsz
  rw [List.length_map] at this
  unfold actE
  rw [if_neg (by simp), if_neg (by simp only; omega), if_neg (by simp only; omega)]
 obtain ⟨A, hd2⟩ := act_after h.calm h.hd ha (h.can _)
 have hso := A.so
 rw [so_msgs (s := m.so) (h.b c) (fun t ht => by have := hsz t ht; omega)] at hso
 have e : (l.map msgR).map (reqOf 81) = l := by
  rw [List.map_map]
  exact (List.map_congr_left (fun r hr' => reqOf_msgR (hr r hr'))).trans (List.map_id l)
 rw [e] at hso
 have e1 : (m.act houseO mode ⟨1, (c : Int), catQ (l.map msgR)⟩).d = l.foldl (D.one mode c) m.d := congrArg So.d hso
 have e2 : (m.act houseO mode ⟨1, (c : Int), catQ (l.map msgR)⟩).b = m.b := congrArg So.b hso
 refine ⟨⟨A.calm, hd2, A.hold hm h.hold, fun x => ?_, by rw [A.len]; exact h.n1, fun x => by rw [e2]; exact h.b x⟩, e1⟩
 have e3 : (m.act houseO mode ⟨1, (c : Int), catQ (l.map msgR)⟩).e = (l.foldl (D.one mode c) m.d).w := congrArg D.w e1
 rw [e3]; exact hst x
theorem Idle.leave (h : Idle mode m) (hm : mode ≠ 1) (hc : c < 6) : Idle mode (m.act houseO mode ⟨2, (c : Int), ⟨#[]⟩⟩) ∧ (m.act houseO mode ⟨2, (c : Int), ⟨#[]⟩⟩).d = m.d.gone c := by
 obtain ⟨A, hd2⟩ := act_after h.calm h.hd (close_E hc) (h.can _)
 have hso := A.so
 have e0 : So.act mode m.so ⟨2, (c : Int), ⟨#[]⟩⟩ = ⟨m.d.gone c, upd m.b c ⟨#[]⟩⟩ := by unfold So.act; rw [if_neg (by simp)]; rfl
 rw [e0] at hso
 have e1 : (m.act houseO mode ⟨2, (c : Int), ⟨#[]⟩⟩).d = m.d.gone c := congrArg So.d hso
 have e2 : (m.act houseO mode ⟨2, (c : Int), ⟨#[]⟩⟩).b = upd m.b c ⟨#[]⟩ := congrArg So.b hso
 refine ⟨⟨A.calm, hd2, A.hold hm h.hold, fun x => ?_, by rw [A.len]; exact h.n1, fun x => ?_⟩, e1⟩
 ·have e3 : (m.act houseO mode ⟨2, (c : Int), ⟨#[]⟩⟩).e = m.e.put c Sess.zero := congrArg D.w e1
  rw [e3]
  show (Wd.at ⟨m.e.rows, m.e.ss.set c Sess.zero⟩ x).st = 0
  have hc6 : c < m.e.ss.length := by have := h.hd.2; show c < m.d.w.ss.length; omega
  rw [set_at hc6]
  split
  ·rfl
  ·exact h.st x
 ·rw [e2]; unfold upd; split; rfl; exact h.b x
theorem start_bytes (n x : Nat) : (Mach.start houseStart n).b x = ⟨#[]⟩ := by
 show ((Mach.start houseStart n).get x).bytes = _
 unfold Mach.get Mach.start
 simp only
 rw [List.getD_eq_getElem?_getD, List.getElem?_replicate]
 split <;> rfl
theorem start_idle (n : Nat) (hn : 1 ≤ n) : Idle mode (Mach.start houseStart n) := by
 refine ⟨start_calm n, hok_start n, fun x hx => ?_, fun x => ?_, ?_, start_bytes n⟩
 ·rw [start_srv] at hx; cases hx
 ·show (houseStart.at x).st = 0
  rw [house_at]; rfl
 ·simp [Mach.start]; omega
end
def kIt : ByteArray := ⟨#[105, 116]⟩
def wX (S T : Sess) : Wd := ⟨[], [S, T, Sess.zero, Sess.zero, Sess.zero, Sess.zero]⟩
def dX (S T : Sess) (s t : ByteArray) (ds : List Deed) : D := ⟨wX S T, [s, t, ⟨#[]⟩, ⟨#[]⟩, ⟨#[]⟩, ⟨#[]⟩], ds⟩
section
variable {mode : Int} {S T S' T' : Sess} {s t : ByteArray} {ds : List Deed} {r : Req} {a : Ans}
theorem dX_st (hS : S.st = 0) (hT : T.st = 0) (x : Nat) : ((dX S T s t ds).w.at x).st = 0 := by
 show (Wd.at (wX S T) x).st = 0
 match x with
 | 0 => exact hS
 | 1 => exact hT
 | 2 => rfl
 | 3 => rfl
 | 4 => rfl
 | 5 => rfl
 | n + 6 => rfl
theorem one_0 (hf : refB mode r = false) (h : doR (wX S T) 0 r = (wX S' T', a)) (hs : S'.st = 0) : (dX S T s t ds).one mode 0 r = dX S' T' (s ++ ansM a 0) t (ds ++ [⟨0, r, a, 0⟩]) :=
 (one_did (d := dX S T s t ds) hf h (st := 0) hs).trans rfl
theorem one_1 (hf : refB mode r = false) (h : doR (wX S T) 1 r = (wX S' T', a)) (hs : T'.st = 0) : (dX S T s t ds).one mode 1 r = dX S' T' s (t ++ ansM a 0) (ds ++ [⟨1, r, a, 0⟩]) :=
 (one_did (d := dX S T s t ds) hf h (st := 0) hs).trans rfl
end
section
variable (v o : ByteArray)
def sS1 : Sess := ⟨0, [(kA, v)], [], [], []⟩
def sS2 : Sess := ⟨0, [(kA, v)], [(kIt, tGetA)], [], []⟩
def skA : List Req := [⟨9, kA, v⟩, ⟨11, kIt, tGetA⟩]
def skB : List Req := [⟨6, kA, ⟨#[]⟩⟩, ⟨8, kIt, ⟨#[]⟩⟩, ⟨9, kA, o⟩]
def skC : List Req := [⟨6, kA, ⟨#[]⟩⟩, ⟨8, kIt, ⟨#[]⟩⟩]
theorem sk_set0 : doR (wX Sess.zero Sess.zero) 0 ⟨9, kA, v⟩ = (wX (sS1 v) Sess.zero, ok') := by
 simp [doR, doM, didM, did1, Wd.at, Wd.put, wX, sS1, Sess.zero, ok', fndL, atL, plusL, plusGo]
theorem sk_prep : doR (wX (sS1 v) Sess.zero) 0 ⟨11, kIt, tGetA⟩ = (wX (sS2 v) Sess.zero, ok') := by
 simp [doR, doM, didM, did1, Wd.at, Wd.put, wX, sS1, sS2, Sess.zero, ok', fndL, atL, plusL, plusGo]
theorem sk_set1 : doR (wX (sS2 v) Sess.zero) 1 ⟨9, kA, o⟩ = (wX (sS2 v) (sS1 o), ok') := by
 simp [doR, doM, didM, did1, Wd.at, Wd.put, wX, sS1, sS2, Sess.zero, ok', fndL, atL, plusL, plusGo]
theorem sk_get0 : doR (wX (sS2 v) (sS1 o)) 0 ⟨6, kA, ⟨#[]⟩⟩ = (wX (sS2 v) (sS1 o), ⟨2, v⟩) := by
 simp [doR, doM, didM, did1, Wd.at, wX, sS1, sS2, atL, eqB_self, fnd']
theorem sk_get1 : doR (wX (sS2 v) (sS1 o)) 1 ⟨6, kA, ⟨#[]⟩⟩ = (wX (sS2 v) (sS1 o), ⟨2, o⟩) := by
 simp [doR, doM, didM, did1, Wd.at, wX, sS1, sS2, atL, eqB_self, fnd']
theorem kGetA : (⟨kindN (cutA tGetA), cutA (cutB tGetA), cutB (cutB tGetA)⟩ : Req) = ⟨6, kA, ⟨#[]⟩⟩ := by
 have h := read_text (k := 6) (key := kA) (v := ⟨#[]⟩) (get_check kA_name (by omega))
 rw [show textOf 6 kA ⟨#[]⟩ = tGetA from rfl] at h
 rw [h.1, h.2.1, h.2.2.1]; rfl
theorem sk_exe0 : doR (wX (sS2 v) (sS1 o)) 0 ⟨8, kIt, ⟨#[]⟩⟩ = (wX (sS2 v) (sS1 o), ⟨2, v⟩) := by
 rw [exec_same (W := wX (sS2 v) (sS1 o)) (i := 0) (key := kIt) (t := tGetA) (r := ⟨6, kA, ⟨#[]⟩⟩) (by simp [Wd.at, wX, sS2, atL, eqB_self]) (by simp [Wd.at, wX, sS2]) kGetA.symm (by show (6 : Int) ≠ 8; decide)]
 exact sk_get0 v o
theorem sk_exe1 : doR (wX (sS2 v) (sS1 o)) 1 ⟨8, kIt, ⟨#[]⟩⟩ = (wX (sS2 v) (sS1 o), ⟨4, tNotPrep⟩) := by
 simp [doR, doM, didM, did1, Wd.at, wX, sS1, sS2, atL, no']
theorem at1_zero (S : Sess) : (wX S Sess.zero).at 1 = Sess.zero := rfl
theorem at0_zero (T : Sess) : (wX Sess.zero T).at 0 = Sess.zero := rfl
def tIok : ByteArray := ⟨#[73, 111, 107]⟩
def tIeq (v : ByteArray) : ByteArray := ⟨#[73, 61]⟩ ++ v
theorem ans_ok : ansM ok' 0 = msg 82 tIok := rfl
theorem ans_eq : ansM ⟨2, v⟩ 0 = msg 82 (tIeq v) := rfl
theorem kIt_name : bndB 97 122 8 kIt = true := by decide
theorem set_check {key v : ByteArray} (h : bndB 97 122 8 key = true) (hv : bndB 33 126 20 v = true) : checkE 9 key v = 0 := by
 refine checkE_ok (by omega) (by rw [keyB_yes (by omega)]; exact h) ?_
 unfold valueB; rw [if_neg (by omega), plainV_yes (by omega)]; exact hv
theorem prep_check : checkE 11 kIt tGetA = 0 := by decide +kernel
variable {v o}
theorem skA_ok (hv : bndB 33 126 20 v = true) : ∀ r ∈ skA v, r.ok := fun r hr => by
 simp only [skA, List.mem_cons, List.not_mem_nil, or_false] at hr
 rcases hr with rfl | rfl
 ·exact set_check kA_name hv
 ·exact prep_check
theorem skC_ok : ∀ r ∈ skC, r.ok := fun r hr => by
 simp only [skC, List.mem_cons, List.not_mem_nil, or_false] at hr
 rcases hr with rfl | rfl
 ·exact get_check kA_name (k := 6) (by omega)
 ·exact get_check kIt_name (k := 8) (by omega)
theorem skB_ok (ho : bndB 33 126 20 o = true) : ∀ r ∈ skB o, r.ok := fun r hr => by
 simp only [skB, List.mem_cons, List.not_mem_nil, or_false] at hr
 rcases hr with rfl | rfl | rfl
 ·exact get_check kA_name (k := 6) (by omega)
 ·exact get_check kIt_name (k := 8) (by omega)
 ·exact set_check kA_name ho
theorem rf (mode : Int) {k : Int} {key val : ByteArray} (h : 2 ≤ k) : refB mode ⟨k, key, val⟩ = false := refB_no (by show k ≠ 0; omega) (fun h' => absurd h' (by show ¬ k = 1; omega))
variable {mode : Int} {s t : ByteArray} {ds : List Deed}
theorem sk_1 : ∃ ds', (skA v).foldl (D.one mode 0) (dX Sess.zero Sess.zero s t ds) = dX (sS2 v) Sess.zero ((s ++ msg 82 tIok) ++ msg 82 tIok) t ds' := by
 simp only [skA, List.foldl_cons, List.foldl_nil]
 rw [one_0 (rf mode (by decide)) (sk_set0 v) rfl, one_0 (rf mode (by decide)) (sk_prep v) rfl, ans_ok]
 exact ⟨_, rfl⟩
theorem sk_2 : ∃ ds', (skB o).foldl (D.one mode 1) (dX (sS2 v) Sess.zero s t ds) = dX (sS2 v) (sS1 o) s (((t ++ msg 82 tInone) ++ msg 82 tIprep) ++ msg 82 tIok) ds' := by
 simp only [skB, List.foldl_cons, List.foldl_nil]
 rw [one_1 (rf mode (by decide)) (get_zero (at1_zero _) kA) rfl, one_1 (rf mode (by decide)) (exe_zero (at1_zero _) kIt) rfl, one_1 (rf mode (by decide)) (sk_set1 v o) rfl, ans_ok, ans_none, ans_prep]
 exact ⟨_, rfl⟩
theorem sk_3 : ∃ ds', skC.foldl (D.one mode 0) (dX (sS2 v) (sS1 o) s t ds) = dX (sS2 v) (sS1 o) ((s ++ msg 82 (tIeq v)) ++ msg 82 (tIeq v)) t ds' := by
 simp only [skC, List.foldl_cons, List.foldl_nil]
 rw [one_0 (rf mode (by decide)) (sk_get0 v o) rfl, one_0 (rf mode (by decide)) (sk_exe0 v o) rfl, ans_eq]
 exact ⟨_, rfl⟩
theorem sk_4 : ∃ ds', skC.foldl (D.one mode 1) (dX (sS2 v) (sS1 o) s t ds) = dX (sS2 v) (sS1 o) s ((t ++ msg 82 (tIeq o)) ++ msg 82 tIprep) ds' := by
 simp only [skC, List.foldl_cons, List.foldl_nil]
 rw [one_1 (rf mode (by decide)) (sk_get1 v o) rfl, one_1 (rf mode (by decide)) (sk_exe1 v o) rfl, ans_eq, ans_prep]
 exact ⟨_, rfl⟩
theorem sk_5 : (dX (sS2 v) (sS1 o) s t ds).gone 0 = dX Sess.zero (sS1 o) s t ds := rfl
theorem sk_6 : ∃ ds', skC.foldl (D.one mode 0) (dX Sess.zero (sS1 o) s t ds) = dX Sess.zero (sS1 o) ((s ++ msg 82 tInone) ++ msg 82 tIprep) t ds' := by
 simp only [skC, List.foldl_cons, List.foldl_nil]
 rw [one_0 (rf mode (by decide)) (get_zero (at0_zero _) kA) rfl, one_0 (rf mode (by decide)) (exe_zero (at0_zero _) kIt) rfl, ans_none, ans_prep]
 exact ⟨_, rfl⟩
def skActs (v o : ByteArray) : List Act := [⟨1, ((0 : Nat) : Int), catQ ((skA v).map msgR)⟩, ⟨1, ((1 : Nat) : Int), catQ ((skB o).map msgR)⟩, ⟨1, ((0 : Nat) : Int), catQ (skC.map msgR)⟩, ⟨1, ((1 : Nat) : Int), catQ (skC.map msgR)⟩, ⟨2, ((0 : Nat) : Int), ⟨#[]⟩⟩, ⟨1, ((0 : Nat) : Int), catQ (skC.map msgR)⟩]
theorem top_kept (hm : mode ≠ 1) (hv : bndB 33 126 20 v = true) (ho : bndB 33 126 20 o = true) :
  ((Mach.start houseStart 1).run houseO mode (skActs v o)).sent.getD 0 ⟨#[]⟩ = catM [tIok, tIok, tIeq v, tIeq v, tInone, tIprep] ∧ ((Mach.start houseStart 1).run houseO mode (skActs v o)).sent.getD 1 ⟨#[]⟩ = catM [tInone, tIprep, tIok, tIeq o, tIprep] := by
 have d0 : (Mach.start houseStart 1).d = dX Sess.zero Sess.zero ⟨#[]⟩ ⟨#[]⟩ [] := rfl
 have i0 := start_idle (mode := mode) 1 (by omega)
 generalize Mach.start houseStart 1 = m0 at *
 obtain ⟨ds1, q1⟩ := sk_1 (v := v) (mode := mode) (s := ⟨#[]⟩) (t := ⟨#[]⟩) (ds := [])
 obtain ⟨i1, e1⟩ := i0.act hm (c := 0) (by omega) (skA_ok hv) (by simp [skA]) (fun x => by rw [d0, q1]; exact dX_st rfl rfl x)
 rw [d0, q1] at e1
 obtain ⟨ds2, q2⟩ := sk_2 (v := v) (o := o) (mode := mode) (s := (⟨#[]⟩ ++ msg 82 tIok) ++ msg 82 tIok) (t := ⟨#[]⟩) (ds := ds1)
 obtain ⟨i2, e2⟩ := i1.act hm (c := 1) (by omega) (skB_ok ho) (by simp [skB]) (fun x => by rw [e1, q2]; exact dX_st rfl rfl x)
 rw [e1, q2] at e2
 obtain ⟨ds3, q3⟩ := sk_3 (v := v) (o := o) (mode := mode) (s := (⟨#[]⟩ ++ msg 82 tIok) ++ msg 82 tIok) (t := ((⟨#[]⟩ ++ msg 82 tInone) ++ msg 82 tIprep) ++ msg 82 tIok) (ds := ds2)
 obtain ⟨i3, e3⟩ := i2.act hm (c := 0) (by omega) skC_ok (by simp [skC]) (fun x => by rw [e2, q3]; exact dX_st rfl rfl x)
 rw [e2, q3] at e3
 obtain ⟨ds4, q4⟩ := sk_4 (v := v) (o := o) (mode := mode) (s := ((((⟨#[]⟩ ++ msg 82 tIok) ++ msg 82 tIok) ++ msg 82 (tIeq v)) ++ msg 82 (tIeq v))) (t := ((⟨#[]⟩ ++ msg 82 tInone) ++ msg 82 tIprep) ++ msg 82 tIok) (ds := ds3)
 obtain ⟨i4, e4⟩ := i3.act hm (c := 1) (by omega) skC_ok (by simp [skC]) (fun x => by rw [e3, q4]; exact dX_st rfl rfl x)
 rw [e3, q4] at e4
 obtain ⟨i5, e5⟩ := i4.leave hm (c := 0) (by omega)
 rw [e4, sk_5] at e5
 obtain ⟨ds6, q6⟩ := sk_6 (o := o) (mode := mode) (s := ((((⟨#[]⟩ ++ msg 82 tIok) ++ msg 82 tIok) ++ msg 82 (tIeq v)) ++ msg 82 (tIeq v))) (t := ((((⟨#[]⟩ ++ msg 82 tInone) ++ msg 82 tIprep) ++ msg 82 tIok) ++ msg 82 (tIeq o)) ++ msg 82 tIprep) (ds := ds4)
 obtain ⟨i6, e6⟩ := i5.act hm (c := 0) (by omega) skC_ok (by simp [skC]) (fun x => by rw [e5, q6]; exact dX_st rfl rfl x)
 rw [e5, q6] at e6
 have e7 := congrArg D.sent e6
 have e8 : ∀ m : Mach Wd, m.d.sent = m.sent := fun _ => rfl
 rw [e8] at e7
 unfold Mach.run skActs
 simp only [List.foldl_cons, List.foldl_nil]
 rw [e7]
 constructor
 ·simp only [dX, List.getD_cons_zero, catM, ByteArray.append_assoc, msg_app_nil, app_nil]
 ·simp only [dX, List.getD_cons_succ, List.getD_cons_zero, catM, ByteArray.append_assoc, msg_app_nil, app_nil]
end
end Go.Proofs.YtpbaobmegomfpabGreatDoor
namespace Go.Proofs.YtpbaobmegomfpabGreatDoor
open Go.Shelf Go.Proofs
def Tryz.laysM171_ren : Go.Shelf.Ren := ⟨fun | 171 => 19 | 243 => 38 | 246 => 59 | 283 => 86 | 284 => 87 | 285 => 88 | 286 => 89 | 129 => 110 | 317 => 109 | 318 => 111 | 319 => 112 | 320 => 113 | 337 => 131 | 338 => 132 | n => n, fun | 3 => 3 | 9 => 9 | 2 => 2 | 4 => 4 | 171 => 148 | 0 => 0 | 53 => 149 | 37 => 80 | 5 => 5 | 173 => 152 | 212 => 168 | 51 => 169 | 20 => 20 | 213 => 170 | 46 => 171 | 232 => 190 | 233 => 191 | n => n, fun | 17 => 2 | 18 => 3 | 19 => 4 | n => n⟩
theorem Tryz.laysM171 : Go.Proofs.LaysM.n171 Tryz.prog Tryz.laysM171_ren := {
 mixed := by kernel_rfl
 f129 := Tryz.func110.trans (congrArg some (by kernel_rfl))
 f171 := Tryz.func19.trans (congrArg some (by kernel_rfl))
 f243 := Tryz.func38.trans (congrArg some (by kernel_rfl))
 f246 := Tryz.func59.trans (congrArg some (by kernel_rfl))
 f283 := Tryz.func86.trans (congrArg some (by kernel_rfl))
 f284 := Tryz.func87.trans (congrArg some (by kernel_rfl))
 f285 := Tryz.func88.trans (congrArg some (by kernel_rfl))
 f286 := Tryz.func89.trans (congrArg some (by kernel_rfl))
 f317 := Tryz.func109.trans (congrArg some (by kernel_rfl))
 f318 := Tryz.func111.trans (congrArg some (by kernel_rfl))
 f319 := Tryz.func112.trans (congrArg some (by kernel_rfl))
 f320 := Tryz.func113.trans (congrArg some (by kernel_rfl))
 f337 := Tryz.func131.trans (congrArg some (by kernel_rfl))
 f338 := Tryz.func132.trans (congrArg some (by kernel_rfl))
 t0 := Tryz.underlying0
 a0 := Tryz.isAgg0
 z0 := Tryz.sizeOf0
 v0 := Tryz.zeroValue0
 t2 := Tryz.underlying2
 a2 := Tryz.isAgg2
 z2 := Tryz.sizeOf2
 v2 := Tryz.zeroValue2
 t3 := Tryz.underlying3
 a3 := Tryz.isAgg3
 z3 := Tryz.sizeOf3
 v3 := Tryz.zeroValue3
 t4 := Tryz.underlying4
 a4 := Tryz.isAgg4
 z4 := Tryz.sizeOf4
 v4 := Tryz.zeroValue4
 t5 := Tryz.underlying5
 a5 := Tryz.isAgg5
 z5 := Tryz.sizeOf5
 v5 := Tryz.zeroValue5
 t9 := Tryz.underlying9
 a9 := Tryz.isAgg9
 z9 := Tryz.sizeOf9
 v9 := Tryz.zeroValue9
 t20 := Tryz.underlying20
 a20 := Tryz.isAgg20
 z20 := Tryz.sizeOf20
 v20 := Tryz.zeroValue20
 t37 := Tryz.underlying80
 a37 := Tryz.isAgg80
 z37 := Tryz.sizeOf80
 v37 := Tryz.zeroValue80
 t46 := Tryz.underlying171
 a46 := Tryz.isAgg171
 z46 := Tryz.sizeOf171
 v46 := Tryz.zeroValue171
 t51 := Tryz.underlying169
 a51 := Tryz.isAgg169
 z51 := Tryz.sizeOf169
 v51 := Tryz.zeroValue169
 t53 := Tryz.underlying149
 a53 := Tryz.isAgg149
 z53 := Tryz.sizeOf149
 v53 := Tryz.zeroValue149
 t171 := Tryz.underlying148
 a171 := Tryz.isAgg148
 z171 := Tryz.sizeOf148
 v171 := Tryz.zeroValue148
 t173 := Tryz.underlying152
 a173 := Tryz.isAgg152
 z173 := Tryz.sizeOf152
 v173 := Tryz.zeroValue152
 t212 := Tryz.underlying168
 a212 := Tryz.isAgg168
 z212 := Tryz.sizeOf168
 v212 := Tryz.zeroValue168
 t213 := Tryz.underlying170
 a213 := Tryz.isAgg170
 z213 := Tryz.sizeOf170
 t232 := Tryz.underlying190
 a232 := Tryz.isAgg190
 z232 := Tryz.sizeOf190
 v232 := Tryz.zeroValue190
 t233 := Tryz.underlying191
 a233 := Tryz.isAgg191
 z233 := Tryz.sizeOf191
 v233 := Tryz.zeroValue191
 g17 := by kernel_rfl
 g18 := by kernel_rfl
 g19 := by kernel_rfl
 i0 := by kernel_rfl
 i2 := by kernel_rfl
 i3 := by kernel_rfl
 i4 := by kernel_rfl
 i5 := by kernel_rfl
 i9 := by kernel_rfl
 i20 := by kernel_rfl
 i37 := by kernel_rfl
 i46 := by kernel_rfl
 i51 := by kernel_rfl
 i53 := by kernel_rfl
 i171 := by kernel_rfl
 i173 := by kernel_rfl
 i212 := by kernel_rfl
 i232 := by kernel_rfl
 i233 := by kernel_rfl
 m17 := by kernel_rfl
 m18 := by kernel_rfl
 m19 := by kernel_rfl }
open Go.RowKit Go.Sort Go.Lib in
theorem Tryz.strconv_Itoa (n : Int) (h0 : -9223372036854775808 ≤ n) (h1 : n ≤ 9223372036854775807) (w : World) (htab : Lib.TabIs Tryz.prog w "internal/strconv.uint64pow10" .u64 Lib.pow10Tab) :
  Calls Tryz.prog 19 #[.int .i64 n] w fun e w' => e = .returned (.string ⟨(Lib.itoa n).toArray⟩) ∧ ∃ k os, w' = grow (w.drewN k) os := Any.strconv_Itoa Tryz.laysM171 n h0 h1 w htab
end Go.Proofs.YtpbaobmegomfpabGreatDoor
