/-
  Texts of the proof, one behind the other: Math, WOff, PoolM3, HouseM, BackLaws, HouseI, HouseS, HouseT, HouseG, PTop, HouseK, HouseL, AloneM, Said, SaidP, HouseN, ActsM, Say11, PMsg, GridC, PActs, SlN, AppA, Say3, AnsW, DelA, PStay, AloneW.
-/
import Derived.WalkKit
import Derived.Test.YtpbaobmegomfpabGreatDoorM1
import Derived.Test.YtpbaobmegomfpabGreatDoorM19
import Derived.Test.YtpbaobmegomfpabGreatDoorM20
import Derived.Test.YtpbaobmegomfpabGreatDoorM21
import Derived.Test.YtpbaobmegomfpabGreatDoorM23
import Derived.Test.YtpbaobmegomfpabGreatDoorM34
import Derived.Test.YtpbaobmegomfpabGreatDoorM18
import Derived.Test.YtpbaobmegomfpabGreatDoorM38
import Derived.Deep.RegionHeld3
import Derived.Test.YtpbaobmegomfpabGreatDoorM15
import Derived.Test.YtpbaobmegomfpabGreatDoorM30
import Derived.Test.YtpbaobmegomfpabGreatDoorM27
import Derived.Test.YtpbaobmegomfpabGreatDoorM16
import Derived.Test.YtpbaobmegomfpabGreatDoorM26
import Derived.Test.YtpbaobmegomfpabGreatDoorM28
import Derived.Deep.CutRange
import Derived.Deep.CutBlock
import Derived.Deep.Upon
import Derived.Test.YtpbaobmegomfpabGreatDoorRows
import Derived.WalkSpells
import Derived.WalkLawsBesides
import Derived.Lib.Hide
import Derived.Test.YtpbaobmegomfpabGreatDoorM36
import Derived.Lib.AppendZeros
import Derived.IntWalk
import Derived.MapKept
import Derived.Laws.StructEq
import Derived.WalkSmall
import Derived.Test.YtpbaobmegomfpabGreatDoorM37
set_option linter.unusedVariables false
set_option linter.unusedSimpArgs false
set_option maxRecDepth 100000
open List renaming getElem_toArray → gTA, getElem_cons_zero → gCZ, getElem_cons_succ → gCS, setIfInBounds_toArray → sTA, set_cons_zero → sCZ, set_cons_succ → sCS
open Go.Lib renaming hid → jD
open Nat renaming le_refl → nL
namespace Go.Proofs.YtpbaobmegomfpabGreatDoor
open Go.RowKit
theorem msgs_zero (k : UInt8) (s m : ByteArray) (h : 0 < (msg k s ++ m).size) : (msg k s ++ m)[0] = k := by
 rw [get_toList]; simp [ByteArray.data_append, msg]
theorem msgs_one (k : UInt8) (s m : ByteArray) (h : 1 < (msg k s ++ m).size) : (msg k s ++ m)[1] = UInt8.ofNat s.size := by
 rw [get_toList]; simp [ByteArray.data_append, msg]
theorem msgs_text (k : UInt8) (s m : ByteArray) : (msg k s ++ m).extract 2 (2 + s.size) = s := by
 apply ba_ext
 rw [ByteArray.data_extract, Array.toList_extract, ByteArray.data_append, Array.toList_append, msg_toList]
 simp
abbrev St3 := Int × ByteArray × ByteArray
structure SLst (w : World) (B : Nat) (v : Value) (l : List St3) : Prop where
 form : ∃ A c, v = .slice A l.length c ∧ l.length ≤ c
 small : l.length ≤ 1000000
 cells : 0 < l.length → ∃ b off c, v = .slice (some ⟨b, off, none⟩) l.length c ∧ b < B ∧
  ∀ i (h : i < l.length), w.cell? ⟨b, off + i * 3, none⟩ = some (.int .i64 l[i].1) ∧ w.cell? ⟨b, off + i * 3 + 1, none⟩ = some (.string l[i].2.1) ∧ w.cell? ⟨b, off + i * 3 + 2, none⟩ = some (.string l[i].2.2)
theorem SLst.keep {w w' : World} {B B' : Nat} {v : Value} {l : List St3} (h : SLst w B v l) (hB : B ≤ B') (hk : ∀ p : Addr, p.block < B → w'.cell? p = w.cell? p) : SLst w' B' v l := by
 refine ⟨h.form, h.small, fun hn => ?_⟩
 obtain ⟨b, off, c, e, hb, hc⟩ := h.cells hn
 exact ⟨b, off, c, e, by omega, fun i hi => ⟨(hk _ hb).trans (hc i hi).1, (hk _ hb).trans (hc i hi).2.1, (hk _ hb).trans (hc i hi).2.2⟩⟩
theorem SLst.step {w w' : World} {v : Value} {l : List St3} (h : SLst w w.heap.size v l) (hb : Below w.heap.size w w') : SLst w' w'.heap.size v l := h.keep hb.size fun _ hp => hb.cell hp
theorem SLst.pt {w : World} {B n c : Nat} {A : Option Addr} {l : List St3} (h : SLst w B (.slice A n c) l) {k : Nat} (hk : k < l.length) :
  ∃ b off, A = some ⟨b, off, none⟩ ∧ b < B ∧ w.cell? ⟨b, off + k * 3, none⟩ = some (.int .i64 l[k].1) ∧ w.cell? ⟨b, off + k * 3 + 1, none⟩ = some (.string l[k].2.1) ∧ w.cell? ⟨b, off + k * 3 + 2, none⟩ = some (.string l[k].2.2) := by
 obtain ⟨b, off, c', e, hb, hc⟩ := h.cells (by omega)
 injection e with e1 e2 e3
 obtain ⟨h1, h2, h3⟩ := hc k hk
 exact ⟨b, off, e1, hb, h1, h2, h3⟩
section
variable {A B : Wd} {s c : Nat}
end
theorem doM_form {W : Wd} (h : WorldOk W) {i : Nat} (hi : i < W.ss.length) (k : Int) (key val : ByteArray) : ∃ rows x a, doM W i k key val = (⟨rows, W.ss.set i x⟩, a) := by
 obtain ⟨rows, x, a, h1, _⟩ := (Like.doM (A := W) (B := W) (s := i) (c := i) ⟨h, h, hi, hi, rfl, rfl, fun _ => rfl⟩ k key val)
 exact ⟨rows, x, a, h1⟩
section
variable {w : Wd} {s : Nat}
end
section
variable {m : Mach Wd} {mode : Int} {c : Nat}
theorem proc_busy {r : Req} {l : List Req} (hw : (m.get c).wait = r :: l) : (m.proc houseO mode c).busy = m.busy ∨ (m.proc houseO mode c).busy = m.busy.set ((m.get c).srv.getD 0) false := by
 unfold Mach.proc
 rw [hw]
 simp only
 by_cases hf : refB mode r = true
 ·rw [if_pos hf]; exact .inl rfl
 ·rw [if_neg hf]
  split
  ·exact .inr rfl
  ·exact .inl rfl
theorem proc_line' : (m.proc houseO mode c).line = m.line := by
 unfold Mach.proc
 split
 ·rfl
 ·simp only
  split
  ·rfl
  ·split <;> rfl
def canServe (m : Mach Wd) (c : Nat) : Prop := (m.get c).srv.isSome = true ∨ false ∈ m.busy
structure Lone (m : Mach Wd) (c : Nat) : Prop where
 line : m.line = []
 oth : ∀ d, d ≠ c → (m.get d).wait = []
 can : canServe m c
def Needs (mode : Int) (m : Mach Wd) (c : Nat) : Prop := (m.get c).srv.isSome = true → (m.e.at c).st ≠ 0 ∨ ∃ r l, (m.get c).wait = r :: l ∧ refB mode r = false
structure Served (mode : Int) (m : Mach Wd) (c : Nat) (r : Mach Wd) : Prop where
 d : r.d = (m.get c).wait.foldl (D.one mode c) m.d
 wait : ∀ x, (r.get x).wait = []
 line : r.line = []
 oth : ∀ x, x ≠ c → r.get x = m.get x
 bytes : (r.get c).bytes = (m.get c).bytes
 can : canServe r c
 len : r.busy.length = m.busy.length
 back : mode ≠ 1 → Needs mode m c → (r.get c).srv.isSome = true → (r.e.at c).st ≠ 0
theorem lone_nodup {l : List Nat} (h : l.Nodup) (hm : ∀ d, d ∈ l ↔ d = c) : l = [c] := by
 cases l with
 | nil => have := (hm c).2 rfl; cases this
 | cons a t =>
  have ha := (hm a).1 List.mem_cons_self
  subst ha
  cases t with
  | nil => rfl
  | cons b t =>
   have hb := (hm b).1 (by simp)
   subst hb
   rw [List.nodup_cons] at h
   exact absurd List.mem_cons_self h.1
theorem lone_all (hc : c < 6) (h : MOk mode m) (hl : Lone m c) : Served mode m c (m.all houseO mode) := by
 refine all_ind (fun m => Lone m c) (fun m r => Served mode m c r) (fun m h hl ht => ?_) (fun m h hl ht => ?_) _ m (nL _) h hl
 ·have hc' : c < m.cl.length := by rw [h.n6]; exact hc
  cases hf : m.firstR mode with
  | some x =>
   obtain ⟨hx6, hxr⟩ := first_some hf
   have hxc : x = c := Classical.byContradiction fun hne => by
    obtain ⟨r, l, hw, _⟩ := ready_wait hxr
    rw [hl.oth x hne] at hw; cases hw
   subst hxc
   obtain ⟨r, l, hw, hsv⟩ := ready_wait hxr
   have e : (m.step houseO mode).2 = m.proc houseO mode x := by unfold Mach.step; rw [hf]
   rw [e]
   have hg := fun d => proc_cl (mode := mode) hc' hw d
   have hgx : (m.proc houseO mode x).get x = { m.get x with wait := l, srv := if refB mode r = false ∧ mode ≠ 1 ∧ ((m.proc houseO mode x).e.at x).st = 0 then none else (m.get x).srv } := by rw [hg, if_pos rfl]
   have hcan : canServe (m.proc houseO mode x) x := by
    by_cases hfr : refB mode r = false ∧ mode ≠ 1 ∧ ((m.proc houseO mode x).e.at x).st = 0
    ·right
     rw [hfr.1, Bool.or_false] at hsv
     obtain ⟨s, hs⟩ := Option.isSome_iff_exists.1 hsv
     have hn : ((m.proc houseO mode x).get x).srv = none := by rw [hgx]; simp only; rw [if_pos hfr]
     have hb := h.srv x s hs
     have hP := (h.proc (o := houseO) hx6 hxr).1
     rcases proc_busy (mode := mode) hw with e1 | e1
     ·exfalso
      have hb2 : (m.proc houseO mode x).busy[s]? = some true := by rw [e1]; exact hb
      obtain ⟨y, hy⟩ := hP.own s hb2
      by_cases e2 : x = y
      ·subst e2; rw [hn] at hy; cases hy
      ·rw [hg, if_neg e2] at hy
       exact e2 (h.inj x y s hs hy)
     ·rw [e1, hs]
      show false ∈ m.busy.set s false
      have hl : s < m.busy.length := (List.getElem?_eq_some_iff.1 hb).1
      exact List.mem_iff_getElem?.2 ⟨s, List.getElem?_set_self hl⟩
    ·rcases hl.can with hcan | hcan
     ·left; rw [hgx]; simp only; rw [if_neg hfr]; exact hcan
     ·right
      rcases proc_busy (mode := mode) hw with e1 | e1
      ·rw [e1]; exact hcan
      ·rw [e1]
       obtain ⟨j, hj⟩ := List.mem_iff_getElem?.1 hcan
       by_cases ej : (m.get x).srv.getD 0 = j
       ·rw [ej]; exact List.mem_iff_getElem?.2 ⟨j, List.getElem?_set_self (List.getElem?_eq_some_iff.1 hj).1⟩
       ·exact List.mem_iff_getElem?.2 ⟨j, by rw [List.getElem?_set_ne ej]; exact hj⟩
   refine ⟨⟨by rw [proc_line']; exact hl.line, fun d hd => by rw [hg, if_neg (fun e => hd e.symm)]; exact hl.oth d hd, hcan⟩, fun r' hr' => ?_⟩
   refine ⟨?_, hr'.wait, hr'.line, fun y hy => ?_, ?_, hr'.can, ?_, fun hm hpre hsome => hr'.back hm (fun hs2 => ?_) hsome⟩
   ·rw [hr'.d, hgx, proc_d hw, hw]; rfl
   ·rw [hr'.oth y hy, hg, if_neg (fun e => hy e.symm)]
   ·rw [hr'.bytes, hgx]
   ·rw [hr'.len]
    rcases proc_busy (mode := mode) hw with e1 | e1 <;> rw [e1]
    simp
   ·rw [hgx] at hs2 ⊢
    simp only at hs2 ⊢
    left
    by_cases hrf : refB mode r = false
    ·intro h0
     rw [if_pos ⟨hrf, hm, h0⟩] at hs2; cases hs2
    ·have hrf' : refB mode r = true := by simpa using hrf
     rw [if_neg (fun hh => hrf hh.1)] at hs2
     rcases hpre hs2 with h0 | ⟨r2, l2, hw2, hr2⟩
     ·have ee : (m.proc houseO mode x).e = m.e := by
       unfold Mach.proc
       rw [hw]
       simp only
       rw [if_pos hrf']; rfl
      rw [ee]; exact h0
     ·rw [hw] at hw2
      injection hw2 with e1 e2
      rw [e1, hr2] at hrf'; cases hrf'
  | none =>
   have e : (m.step houseO mode) = m.enq.assign houseO := by unfold Mach.step; rw [hf]
   rw [e] at ht ⊢
   have hq := h.enq hf
   have hmem : ∀ d, d ∈ m.enq.line ↔ d < 6 ∧ (m.get d).wait ≠ [] := fun d => by
    show d ∈ (List.range 6).foldl (enqL m) m.line ↔ _
    rw [enq_mem, hl.line, List.mem_range]
    simp
   have hwc : (m.get c).wait ≠ [] := fun hw => by
    have : m.enq.line = [] := List.eq_nil_iff_forall_not_mem.2 fun d hd => by
     obtain ⟨_, h2⟩ := (hmem d).1 hd
     by_cases e : d = c
     ·subst e; exact h2 hw
     ·exact h2 (hl.oth d e)
    unfold Mach.assign at ht
    rw [this] at ht; cases ht
   have hline : m.enq.line = [c] := lone_nodup (enq_nodup h.nodup) fun d => by
    rw [hmem]
    exact ⟨fun ⟨_, h2⟩ => Classical.byContradiction fun hne => h2 (hl.oth d hne), fun e => by subst e; exact ⟨hc, hwc⟩⟩
   have hnr := first_none hf hc
   cases hw : (m.get c).wait with
   | nil => exact absurd hw hwc
   | cons r l =>
   unfold readyB at hnr
   rw [hw] at hnr
   simp only [Bool.or_eq_false_iff] at hnr
   have hb : m.busy.idxOf false < m.busy.length := by
    unfold Mach.assign at ht
    rw [hline] at ht
    simp only at ht
    by_cases hb : m.enq.busy.idxOf false < m.enq.busy.length
    ·exact hb
    ·rw [if_neg hb] at ht; cases ht
   have ha : (m.enq.assign houseO).2 = { m with line := [], busy := m.busy.set (m.busy.idxOf false) true, cl := m.cl.set c { m.get c with srv := some (m.busy.idxOf false) } } := by
    unfold Mach.assign
    rw [hline]
    simp only
    rw [if_pos (by exact hb)]
    rfl
   rw [ha]
   have hg : ∀ d, Mach.get { m with line := [], busy := m.busy.set (m.busy.idxOf false) true, cl := m.cl.set c { m.get c with srv := some (m.busy.idxOf false) } } d = if c = d then { m.get c with srv := some (m.busy.idxOf false) } else m.get d := fun d => get_cl hc'
   refine ⟨⟨rfl, fun d hd => by rw [hg, if_neg (fun e => hd e.symm)]; exact hl.oth d hd, .inl (by rw [hg, if_pos rfl]; rfl)⟩, fun r' hr' => ?_⟩
   refine ⟨?_, hr'.wait, hr'.line, fun y hy => ?_, ?_, hr'.can, ?_, fun hm hpre hsome => hr'.back hm (fun hs2 => ?_) hsome⟩
   ·rw [hr'.d, hg, if_pos rfl]; rfl
   ·rw [hr'.oth y hy, hg, if_neg (fun e => hy e.symm)]
   ·rw [hr'.bytes, hg, if_pos rfl]
   ·rw [hr'.len]; simp
   ·right
    exact ⟨r, l, by rw [hg, if_pos rfl]; exact hw, hnr.2⟩
 ·cases hf : m.firstR mode with
  | some x => unfold Mach.step at ht; rw [hf] at ht; cases ht
  | none =>
   have e : (m.step houseO mode) = m.enq.assign houseO := by unfold Mach.step; rw [hf]
   rw [e] at ht ⊢
   rw [assign_no ht]
   have hc' : c < m.cl.length := by rw [h.n6]; exact hc
   have hmem : ∀ d, d ∈ m.enq.line ↔ d < 6 ∧ (m.get d).wait ≠ [] := fun d => by
    show d ∈ (List.range 6).foldl (enqL m) m.line ↔ _
    rw [enq_mem, hl.line, List.mem_range]
    simp
   have hwc : (m.get c).wait = [] := Classical.byContradiction fun hwc => by
    have hline : m.enq.line = [c] := lone_nodup (enq_nodup h.nodup) fun d => by
     rw [hmem]
     exact ⟨fun ⟨_, h2⟩ => Classical.byContradiction fun hne => h2 (hl.oth d hne), fun e => by subst e; exact ⟨hc, hwc⟩⟩
    have hnr := first_none hf hc
    have hsv : (m.get c).srv.isSome = false := by
     cases hw : (m.get c).wait with
     | nil => exact absurd hw hwc
     | cons r l =>
      unfold readyB at hnr
      rw [hw] at hnr
      simp only [Bool.or_eq_false_iff] at hnr
      exact hnr.1
    have hb : m.busy.idxOf false < m.busy.length := List.idxOf_lt_length_iff.2 (hl.can.resolve_left (by rw [hsv]; simp))
    unfold Mach.assign at ht
    rw [hline] at ht
    simp only at ht
    rw [if_pos (by exact hb)] at ht; cases ht
   have hnil : m.enq.line = [] := List.eq_nil_iff_forall_not_mem.2 fun d hd => by
    obtain ⟨_, h2⟩ := (hmem d).1 hd
    by_cases e : d = c
    ·subst e; exact h2 hwc
    ·exact h2 (hl.oth d e)
   refine ⟨by rw [hwc]; rfl, fun y => ?_, hnil, fun _ _ => rfl, rfl, hl.can, rfl, fun hm hpre hsome => ?_⟩
   ·by_cases e : y = c
    ·subst e; exact hwc
    ·exact hl.oth y e
   ·rcases hpre hsome with h0 | ⟨r, l, hw, _⟩
    ·exact h0
    ·rw [hwc] at hw; cases hw
end
def saidM (i : Nat) (W : Wd) (l : List Req) : Wd := l.foldl (fun W r => (doR W i r).1) W
def lastM (i : Nat) : Wd → Ans × Int → List Req → Ans × Int
 | _, a, [] => a
 | W, _, r :: l => lastM i (doR W i r).1 ((doR W i r).2, ((doR W i r).1.at i).st) l
section
variable {W : Wd} {i : Nat}
end
section
variable {W : Wd} {i : Nat}
end
structure Kept (mode : Int) (J : JP) : Prop where
 one : ∀ d b q c r l, c < 6 → q c = r :: l → r.fine → J d b q → J (d.one mode c r) b (upd q c l)
 feed : ∀ d b q c k t j, c < 6 → pull (b c) = some (k, t, j) → k ≠ 88 → J d b q → J d (upd b c ((b c).extract j (b c).size)) (upd q c (q c ++ [reqOf k t]))
 leave : ∀ d b q c, c < 6 → J d b q → J ⟨d.w.put c Sess.zero, d.sent, d.deeds⟩ (upd b c ⟨#[]⟩) (upd q c [])
section
variable {mode : Int} {J : JP} {m : Mach Wd} {c : Nat}
theorem Kept.all (K : Kept mode J) (h : MOk mode m) (hj : m.has J) : (m.all houseO mode).has J := all_has K.one h hj
theorem upd_self {α : Type} (f : Nat → α) (c : Nat) : upd f c (f c) = f := by
 funext x; unfold upd; split
 ·rename_i h; rw [h]
 ·rfl
theorem Kept.leave' (K : Kept mode J) (h : MOk mode m) (hc : c < 6) (hj : m.has J) : (m.leave houseO c).has J := by
 have hc' : c < m.cl.length := by rw [h.n6]; exact hc
 have e1 : (m.leave houseO c).b = upd m.b c ⟨#[]⟩ := set_b (m := m) hc' Cl.new
 have e2 : (m.leave houseO c).q = upd m.q c [] := set_q (m := m) hc' Cl.new
 unfold Mach.has
 rw [e1, e2]
 exact K.leave m.d m.b m.q c hc hj
theorem Kept.feed' (K : Kept mode J) (h : MOk mode m) (hc : c < 6) (hj : m.has J) (n : Nat) : (m.feed houseO mode n c).has J := by
 induction n generalizing m with
 | zero => exact hj
 | succ n ih =>
  have hc' : c < m.cl.length := by rw [h.n6]; exact hc
  unfold Mach.feed
  cases hp : pull (m.get c).bytes with
  | none => exact hj
  | some q =>
   obtain ⟨k, t, j⟩ := q
   simp only
   split
   ·exact K.leave' h.all hc (K.all h hj)
   ·rename_i hk
    refine ih (h.turn hc (fine_app (fun q hq => h.fine c q hq) (reqOf_fine k t)) rfl fun hl => ⟨by simp, ?_⟩) ?_
    ·obtain ⟨_, _, h3, h4⟩ := h.line c hl
     exact ready_app h3 h4
    ·have := K.feed m.d m.b m.q c k t j hc hp hk hj
     unfold Mach.has
     rw [set_b hc', set_q hc']
     exact this
theorem Kept.act (J : Nat → JP) (K : ∀ T, Kept mode (J T)) (hd : ∀ T d b q c data, c < 6 → J T d b q → J (T + 1) d (upd b c (b c ++ data)) q) (hcl : ∀ T d b q, J T d b q → J (T + 1) d b q) {T : Nat} (h : MOk mode m) (hj : m.has (J T)) {a : Act} (ha : actE a = 0) : (m.act houseO mode a).has (J (T + 1)) := by
 obtain ⟨hc, _⟩ := act_lt ha
 have hc' : a.c.toNat < m.cl.length := by rw [h.n6]; exact hc
 unfold Mach.act
 split
 ·refine (K _).all (h.deliver hc _) ?_
  unfold Mach.deliver
  refine (K _).feed' (h.bytes hc _) hc ?_ _
  unfold Mach.has
  rw [set_b hc', set_q hc']
  have := hd T m.d m.b m.q a.c.toNat a.data hc hj
  show J (T + 1) m.d (upd m.b a.c.toNat (m.b a.c.toNat ++ a.data)) (upd m.q a.c.toNat (m.q a.c.toNat))
  rw [upd_self]; exact this
 ·exact (K _).all (h.leave hc) ((K _).leave' h hc (hcl T _ _ _ hj))
end
section
variable {mode : Int} {m : Mach Wd}
end
def HOk (d : D) : Prop := WorldOk d.w ∧ d.w.ss.length = 6
theorem hok_one {mode : Int} {d : D} {c : Nat} {r : Req} (hc : c < 6) (hr : r.fine) (h : HOk d) : HOk (d.one mode c r) := by
 unfold HOk
 rw [one_w]
 split
 ·exact h
 ·rename_i hn
  have := doR_ok h.1 (i := c) (by rw [h.2]; exact hc) (fine_ok hr hn)
  exact ⟨this.1, this.2.trans h.2⟩
theorem hok_leave {d : D} {c : Nat} (hc : c < 6) (h : HOk d) : HOk ⟨d.w.put c Sess.zero, d.sent, d.deeds⟩ :=
 ⟨wput_ok h.1 (by rw [h.2]; exact hc) zero_ok (fun p hp => by cases hp), by show (d.w.put c _).ss.length = 6; rw [wput_len]; exact h.2⟩
theorem hok_start (n : Nat) : HOk (Mach.start houseStart n).d := ⟨zeros_ok (by omega), by simp [Mach.start, Mach.d, houseStart]⟩
section
variable {W : Wd} {c : Nat}
end
theorem other_at {W : Wd} (h : WorldOk W) {c : Nat} (hc : c < W.ss.length) (r : Req) {x : Nat} (hx : x ≠ c) : (doR W c r).1.at x = W.at x := by
 obtain ⟨rows, y, a, e⟩ := doM_form h hc r.k r.key r.val
 unfold doR
 rw [e, set_at hc, if_neg (fun e => hx e.symm)]
theorem house_at (x : Nat) : houseStart.at x = Sess.zero := zeros_at _ _ _
section
variable {W : Wd} {c : Nat}
end
section
variable {E : Type} {o : Ops E} {mode : Int} {m : Mach E} {c : Nat}
theorem set_same (hc : c < m.cl.length) : m.set c (m.get c) = m := by
 unfold Mach.set; rw [get_lt hc, List.set_getElem_self]
theorem set_twice (x y : Cl) : (m.set c x).set c y = m.set c y := by unfold Mach.set; simp
theorem feed_eq (n : Nat) : ∀ {m : Mach E}, c < m.cl.length → m.feed o mode n c =
  if (pulls n (m.get c).bytes).2.2 then ((m.set c { m.get c with bytes := (pulls n (m.get c).bytes).2.1, wait := (m.get c).wait ++ (pulls n (m.get c).bytes).1 }).all o mode).leave o c
  else m.set c { m.get c with bytes := (pulls n (m.get c).bytes).2.1, wait := (m.get c).wait ++ (pulls n (m.get c).bytes).1 } := by
 induction n with
 | zero => intro m hc; unfold Mach.feed pulls; simp [set_same hc]
 | succ n ih =>
  intro m hc
  unfold Mach.feed pulls
  cases hp : pull (m.get c).bytes with
  | none => simp [set_same hc]
  | some q =>
   obtain ⟨k, t, j⟩ := q
   simp only
   by_cases hk : k = 88
   ·rw [if_pos hk, if_pos hk]; simp [set_same hc]
   ·rw [if_neg hk, if_neg hk]
    have hc2 : c < (m.set c { m.get c with bytes := (m.get c).bytes.extract j (m.get c).bytes.size, wait := (m.get c).wait ++ [reqOf k t] }).cl.length := by simpa [Mach.set] using hc
    rw [ih hc2, get_set hc, if_pos rfl]
    simp only [set_twice, List.append_assoc, List.singleton_append]
end
structure Calm (mode : Int) (m : Mach Wd) : Prop where
 ok : MOk mode m
 line : m.line = []
 wait : ∀ c, (m.get c).wait = []
section
variable {mode : Int} {m : Mach Wd} {c : Nat}
theorem so_ext {a b : So} (h1 : a.d = b.d) (h2 : a.b = b.b) : a = b := by cases a; cases b; simp at h1 h2; rw [h1, h2]
def Holds (m : Mach Wd) : Prop := ∀ x, (m.get x).srv.isSome = true → (m.e.at x).st ≠ 0
structure After (mode : Int) (m : Mach Wd) (c : Nat) (r : Mach Wd) (s : So) : Prop where
 calm : Calm mode r
 so : r.so = s
 oth : ∀ x, x ≠ c → r.get x = m.get x
 len : r.busy.length = m.busy.length
 hold : mode ≠ 1 → Holds m → Holds r
theorem leave_get (h : MOk mode m) (hc : c < 6) (x : Nat) : (m.leave houseO c).get x = if c = x then Cl.new else m.get x :=
 get_cl (m := m) (by rw [h.n6]; exact hc)
theorem leave_len : (m.leave houseO c).busy.length = m.busy.length := by
 unfold Mach.leave; simp only; split <;> simp
theorem leave_at (h : MOk mode m) (hc : c < m.e.ss.length) (x : Nat) : (m.leave houseO c).e.at x = if c = x then Sess.zero else m.e.at x := set_at (W := m.e) hc m.e.rows Sess.zero x
theorem leave_can (h : MOk mode m) (hc : c < 6) (hcan : canServe m c) : false ∈ (m.leave houseO c).busy := by
 unfold Mach.leave
 simp only
 cases hs : (m.get c).srv with
 | none =>
  rcases hcan with h1 | h1
  ·rw [hs] at h1; cases h1
  ·exact h1
 | some s =>
  have hb := h.srv c s hs
  exact List.mem_iff_getElem?.2 ⟨s, List.getElem?_set_self (List.getElem?_eq_some_iff.1 hb).1⟩
theorem leave_after (h : Calm mode m) (hc : c < 6) (h6 : m.e.ss.length = 6) (hcan : canServe m c) : After mode m c ((m.leave houseO c).all houseO mode) ⟨m.d.gone c, upd m.b c ⟨#[]⟩⟩ := by
 have hl := h.ok.leave (o := houseO) hc
 have hg := fun x => leave_get h.ok hc x
 have hw : ∀ x, ((m.leave houseO c).get x).wait = [] := fun x => by rw [hg]; split; rfl; exact h.wait x
 have lone : Lone (m.leave houseO c) c := ⟨by show m.line.filter _ = []; rw [h.line]; rfl, fun d _ => hw d, .inr (leave_can h.ok hc hcan)⟩
 have S := lone_all hc hl lone
 have Sd : ((m.leave houseO c).all houseO mode).d = m.d.gone c := by rw [S.d, hw]; rfl
 have hget : ∀ x, ((m.leave houseO c).all houseO mode).get x = if c = x then ((m.leave houseO c).all houseO mode).get c else m.get x := fun x => by
  by_cases e : c = x
  ·rw [if_pos e, e]
  ·rw [if_neg e, S.oth x (fun e' => e e'.symm), hg, if_neg e]
 have hoth : ∀ x, x ≠ c → ((m.leave houseO c).all houseO mode).get x = m.get x := fun x hx => by rw [hget, if_neg (fun e => hx e.symm)]
 refine ⟨⟨hl.all, S.line, S.wait⟩, so_ext Sd ?_, hoth, by rw [S.len, leave_len], fun hm hh x hx => ?_⟩
 ·show ((m.leave houseO c).all houseO mode).b = _
  funext x
  show (((m.leave houseO c).all houseO mode).get x).bytes = if x = c then (⟨#[]⟩ : ByteArray) else (m.get x).bytes
  by_cases e : x = c
  ·subst e; rw [if_pos rfl, S.bytes, hg, if_pos rfl]; rfl
  ·rw [if_neg e, hoth x e]
 ·by_cases e : x = c
  ·subst e
   refine S.back hm (fun hs => ?_) hx
   rw [hg, if_pos rfl] at hs; cases hs
  ·have he : ((m.leave houseO c).all houseO mode).e = (m.leave houseO c).e := congrArg D.w Sd
   rw [he, leave_at h.ok (by rw [h6]; exact hc), if_neg (fun e' => e e'.symm)]
   rw [hoth x e] at hx
   exact hh x hx
theorem ones_len {mode : Int} {c : Nat} (hc : c < 6) : ∀ {l : List Req} {d : D}, (∀ r ∈ l, r.fine) → HOk d → HOk (l.foldl (D.one mode c) d)
 | [], d, _, h => h
 | r :: l, d, hr, h => ones_len (l := l) hc (fun q hq => hr q (List.mem_cons_of_mem _ hq)) (hok_one hc (hr r List.mem_cons_self) h)
theorem ones_other {mode : Int} {c x : Nat} (hc : c < 6) (hx : x ≠ c) : ∀ {l : List Req} {d : D}, (∀ r ∈ l, r.fine) → HOk d → (l.foldl (D.one mode c) d).w.at x = d.w.at x
 | [], d, _, h => rfl
 | r :: l, d, hr, h => by
  have h1 := hok_one (mode := mode) hc (hr r List.mem_cons_self) h
  show (l.foldl (D.one mode c) (d.one mode c r)).w.at x = _
  rw [ones_other (l := l) hc hx (fun q hq => hr q (List.mem_cons_of_mem _ hq)) h1, one_w]
  split
  ·rfl
  ·exact other_at h.1 (by rw [h.2]; exact hc) r hx
theorem pulls_fine : ∀ (n : Nat) (b : ByteArray), ∀ r ∈ (pulls n b).1, r.fine
 | 0, b, r, h => by cases h
 | n + 1, b, r, h => by
  unfold pulls at h
  cases hp : pull b with
  | none => rw [hp] at h; cases h
  | some q =>
   obtain ⟨k, t, j⟩ := q
   rw [hp] at h
   simp only at h
   split at h
   ·cases h
   ·rcases List.mem_cons.1 h with e | h
    ·rw [e]; exact reqOf_fine k t
    ·exact pulls_fine n _ r h
theorem deliver_after (h : Calm mode m) (hd : HOk m.d) (hc : c < 6) (hcan : canServe m c) (data : ByteArray) : After mode m c ((m.deliver houseO mode c data).all houseO mode) (So.act mode m.so ⟨1, c, data⟩) := by
 have hc' : c < m.cl.length := by rw [h.ok.n6]; exact hc
 have hb := h.ok.bytes hc ((m.get c).bytes ++ data)
 have hfuel : (m.get c).bytes.size + data.size + 1 = ((m.get c).bytes ++ data).size + 1 := by simp
 have hdel : m.deliver houseO mode c data = if (pullsA ((m.get c).bytes ++ data)).2.2 then ((m.set c { m.get c with bytes := (pullsA ((m.get c).bytes ++ data)).2.1, wait := (pullsA ((m.get c).bytes ++ data)).1 }).all houseO mode).leave houseO c
   else m.set c { m.get c with bytes := (pullsA ((m.get c).bytes ++ data)).2.1, wait := (pullsA ((m.get c).bytes ++ data)).1 } := by
  unfold Mach.deliver
  rw [hfuel, feed_eq _ (by simpa [Mach.set] using hc'), get_set hc', if_pos rfl]
  simp only [set_twice, h.wait c, List.nil_append]
  rfl
 have hfine := pulls_fine (((m.get c).bytes ++ data).size + 1) ((m.get c).bytes ++ data)
 rw [hdel]
 have hact : So.act mode m.so ⟨1, c, data⟩ = if (pullsA ((m.get c).bytes ++ data)).2.2 then ⟨((pullsA ((m.get c).bytes ++ data)).1.foldl (D.one mode c) m.d).gone c, upd m.b c ⟨#[]⟩⟩ else ⟨(pullsA ((m.get c).bytes ++ data)).1.foldl (D.one mode c) m.d, upd m.b c (pullsA ((m.get c).bytes ++ data)).2.1⟩ := by
  unfold So.act
  rw [if_pos rfl]; rfl
 rw [hact]
 clear hact hdel hfuel
 have hrs : ∀ r ∈ (pullsA ((m.get c).bytes ++ data)).1, r.fine := hfine
 clear hfine
 generalize pullsA ((m.get c).bytes ++ data) = p at *
 obtain ⟨rs, rest, gone⟩ := p
 simp only at hrs ⊢
 have hm1 : MOk mode (m.set c { m.get c with bytes := rest, wait := rs }) := h.ok.turn hc hrs rfl (fun hl => by rw [h.line] at hl; cases hl)
 have hg1 := fun x => get_set (m := m) (d := x) (x := { m.get c with bytes := rest, wait := rs }) hc'
 have lone : Lone (m.set c { m.get c with bytes := rest, wait := rs }) c := ⟨h.line, fun d hd => by rw [hg1, if_neg (fun e => hd e.symm)]; exact h.wait d, by
  rcases hcan with h1 | h1
  ·left; rw [hg1, if_pos rfl]; exact h1
  ·right; exact h1⟩
 have S := lone_all hc hm1 lone
 generalize hr : (m.set c { m.get c with bytes := rest, wait := rs }).all houseO mode = r at *
 have hok : MOk mode r := by rw [← hr]; exact hm1.all
 have Sd : r.d = rs.foldl (D.one mode c) m.d := by rw [S.d, hg1, if_pos rfl]; rfl
 have hoth : ∀ x, x ≠ c → r.get x = m.get x := fun x hx => by rw [S.oth x hx, hg1, if_neg (fun e => hx e.symm)]
 have hbb : r.b = upd m.b c rest := by
  funext x
  show (r.get x).bytes = if x = c then rest else (m.get x).bytes
  by_cases e : x = c
  ·subst e; rw [if_pos rfl, S.bytes, hg1, if_pos rfl]
  ·rw [if_neg e, hoth x e]
 have hold : mode ≠ 1 → Holds m → Holds r := fun hm hh x hx => by
  by_cases e : x = c
  ·subst e
   refine S.back hm (fun hs => .inl ?_) hx
   rw [hg1, if_pos rfl] at hs
   exact hh x hs
  ·rw [hoth x e] at hx
   have : r.e.at x = m.e.at x := by
    have e1 : r.e = (rs.foldl (D.one mode c) m.d).w := congrArg D.w Sd
    rw [e1]; exact ones_other hc e hrs hd
   rw [this]; exact hh x hx
 have hd' : HOk r.d := by rw [Sd]; exact ones_len hc hrs hd
 cases gone with
 | false =>
  simp only [Bool.false_eq_true, if_false]
  rw [hr]
  exact ⟨⟨hok, S.line, S.wait⟩, so_ext Sd hbb, hoth, S.len, hold⟩
 | true =>
  simp only [if_true]
  have L := leave_after ⟨hok, S.line, S.wait⟩ hc hd'.2 S.can
  refine ⟨L.calm, ?_, fun x hx => (L.oth x hx).trans (hoth x hx), L.len.trans S.len, fun hm hh => L.hold hm (hold hm hh)⟩
  rw [L.so, Sd, hbb]
  refine so_ext rfl ?_
  funext x
  show (if x = c then _ else if x = c then rest else m.b x) = (if x = c then _ else m.b x)
  by_cases e : x = c
  ·rw [if_pos e, if_pos e]
  ·rw [if_neg e, if_neg e, if_neg e]
theorem act_after (h : Calm mode m) (hd : HOk m.d) {a : Act} (ha : actE a = 0) (hcan : canServe m a.c.toNat) : After mode m a.c.toNat (m.act houseO mode a) (So.act mode m.so a) ∧ HOk (m.act houseO mode a).d := by
 obtain ⟨hc, hcc⟩ := act_lt ha
 have A : After mode m a.c.toNat (m.act houseO mode a) (So.act mode m.so a) := by
  unfold Mach.act
  by_cases hk : a.kind = 1
  ·rw [if_pos hk]
   have := deliver_after h hd hc hcan a.data
   have e : So.act mode m.so ⟨1, (a.c.toNat : Int), a.data⟩ = So.act mode m.so a := by unfold So.act; simp only [hk, Int.toNat_natCast]
   rw [e] at this; exact this
  ·rw [if_neg hk]
   have := leave_after h hc hd.2 hcan
   have e : So.act mode m.so a = ⟨m.d.gone a.c.toNat, upd m.b a.c.toNat ⟨#[]⟩⟩ := by unfold So.act; rw [if_neg hk]; rfl
   rw [e]; exact this
 refine ⟨A, ?_⟩
 exact Kept.act (fun _ => fun d _ _ => HOk d) (fun _ => ⟨fun d b q c r l hc _ hr hi => hok_one hc hr hi, fun d b q c k t j _ _ _ hi => hi, fun d b q c hc hi => hok_leave hc hi⟩) (fun T d b q c data _ hi => hi) (fun T d b q hi => hi) (T := 0) h.ok hd ha
end
section
variable {mode : Int} {m : Mach Wd} {c : Nat}
theorem start_calm (n : Nat) : Calm mode (Mach.start houseStart n) :=
 ⟨start_ok _ _ _, rfl, fun c => by unfold Mach.get Mach.start; simp only; rw [List.getD_eq_getElem?_getD, List.getElem?_replicate]; split <;> rfl⟩
theorem start_srv (n x : Nat) : ((Mach.start houseStart n).get x).srv = none := by
 unfold Mach.get Mach.start; simp only; rw [List.getD_eq_getElem?_getD, List.getElem?_replicate]; split <;> rfl
end
theorem ext_app {b y : ByteArray} {j : Nat} (hj : j ≤ b.size) : (b ++ y).extract j (b ++ y).size = b.extract j b.size ++ y := ba_ext (by
 rw [ext_list, ByteArray.data_append, Array.toList_append, ByteArray.data_append, Array.toList_append, ext_list]
 have h1 : (b ++ y).size = (b.data.toList ++ y.data.toList).length := by simp
 rw [h1, List.take_length, List.take_of_length_le (by simp), List.drop_append_of_le_length (by simpa using hj)])
theorem pulls_more : ∀ (n k : Nat) (b : ByteArray), b.size < n → b.size < k → pulls n b = pulls k b
 | 0, k, b, h, _ => absurd h (by omega)
 | n + 1, 0, b, _, h => absurd h (by omega)
 | n + 1, k + 1, b, hn, hk => by
  unfold pulls
  cases hp : pull b with
  | none => rfl
  | some q =>
   obtain ⟨kk, t, j⟩ := q
   obtain ⟨h2, _, hj, _, _⟩ := pull_some hp
   simp only
   rw [pulls_more n k (b.extract j b.size) (by rw [ext_size]; omega) (by rw [ext_size]; omega)]
theorem pullsA_none {b : ByteArray} (h : pull b = none) : pullsA b = ([], b, false) := by unfold pullsA pulls; rw [h]
theorem pullsA_some {b : ByteArray} {k : UInt8} {t : ByteArray} {j : Nat} (h : pull b = some (k, t, j)) (hk : k ≠ 88) : pullsA b = (reqOf k t :: (pullsA (b.extract j b.size)).1, (pullsA (b.extract j b.size)).2.1, (pullsA (b.extract j b.size)).2.2) := by
 obtain ⟨h2, _, hj, _, hle⟩ := pull_some h
 have e : pulls b.size (b.extract j b.size) = pullsA (b.extract j b.size) := pulls_more _ _ _ (by rw [ext_size]; omega) (by omega)
 unfold pullsA
 rw [show pulls (b.size + 1) b = _ from by unfold pulls; rw [h]]
 simp only
 rw [if_neg hk, e]; rfl
section
variable {mode : Int}
end
section
variable {mode : Int} {m : Mach Wd} {c : Nat}
end
section
variable {mode : Int} {m : Mach Wd} {c : Nat}
end
section
variable {E : Type} {o : Ops E} {mode : Int}
end
section
variable {mode : Int} {m : Mach Wd} {c : Nat}
theorem pull_msg (k : UInt8) (t y : ByteArray) (h : t.size < 256) : pull (msg k t ++ y) = some (k, t, 2 + t.size) := by
 have hs : (msg k t ++ y).size = t.size + 2 + y.size := by rw [ByteArray.size_append, msg_size]
 have e1 : ((msg k t ++ y)[1]'(by omega)).toNat = t.size := by
  rw [msgs_one k t y (by omega)]; simp; omega
 unfold pull
 rw [dif_pos (by omega)]
 simp only [e1]
 rw [if_pos (by omega), msgs_zero k t y (by omega), msgs_text]
theorem msg_rest (k : UInt8) (t y : ByteArray) : (msg k t ++ y).extract (2 + t.size) (msg k t ++ y).size = y := by
 rw [ext_app (by rw [msg_size]; omega)]
 have : (msg k t).extract (2 + t.size) (msg k t).size = ⟨#[]⟩ := ba_ext (by
  rw [ext_list, List.drop_eq_nil_of_le (by simp [msg_size]; omega)])
 rw [this]
 exact ba_ext (by simp)
theorem pullsA_msg {k : UInt8} {t y : ByteArray} (h : t.size < 256) (hk : k ≠ 88) : pullsA (msg k t ++ y) = (reqOf k t :: (pullsA y).1, (pullsA y).2.1, (pullsA y).2.2) := by
 rw [pullsA_some (pull_msg k t y h) hk, msg_rest]
theorem pull_empty : pull ⟨#[]⟩ = none := by unfold pull; rw [dif_neg (by decide)]
theorem pullsA_empty : pullsA ⟨#[]⟩ = ([], ⟨#[]⟩, false) := pullsA_none pull_empty
theorem reqOf_text {k : Nat} {key v : ByteArray} (h : checkE k key v = 0) : reqOf 81 (textOf k key v) = ⟨k, key, v⟩ := by
 obtain ⟨h1, h2, h3, h4⟩ := read_text h
 unfold reqOf
 rw [if_pos ⟨rfl, h4⟩, h1, h2, h3]
end
def SlOnly (w : World) (R : Nat) : Prop := ∀ o u, w.cell? ⟨R, o, none⟩ = some u → ∃ A n c, u = .slice A n c
theorem SlOnly.str {w : World} {R o : Nat} (h : SlOnly w R) {s : ByteArray} (hc : w.cell? ⟨R, o, none⟩ = some (.string s)) : False := by
 obtain ⟨A, n, c, e⟩ := h _ _ hc; cases e
theorem SlOnly.int {w : World} {R o : Nat} (h : SlOnly w R) {k : IntKind} {s : Int} (hc : w.cell? ⟨R, o, none⟩ = some (.int k s)) : False := by
 obtain ⟨A, n, c, e⟩ := h _ _ hc; cases e
theorem OutV.off {w w' : World} {R : Nat} {v1 v2 v3 : Value} {sent : List ByteArray} {deeds : List Deed} {rows : PL} (h : OutV w v1 v2 v3 sent deeds rows) (hR : SlOnly w R) (hs : w'.heap.size = w.heap.size) (hk : ∀ b, b ≠ R → w'.heap[b]? = w.heap[b]?) : OutV w' v1 v2 v3 sent deeds rows := by
 refine ⟨⟨h.s.form, h.s.small, h.s.sizes, fun hn => ?_⟩, ⟨h.d.form, h.d.small, fun hn => ?_⟩, ?_⟩
 ·obtain ⟨b, off, c, e, hb, hc⟩ := h.s.cells hn
  have hne : b ≠ R := by rintro rfl; exact hR.str (hc 0 hn)
  exact ⟨b, off, c, e, by rw [hs]; exact hb, fun i hi => (World.cell?_of_block (hk b hne)).trans (hc i hi)⟩
 ·obtain ⟨b, off, c, e, hb, hc⟩ := h.d.cells hn
  have hne : b ≠ R := by rintro rfl; exact hR.int (hc 0 hn 0 _ rfl)
  exact ⟨b, off, c, e, by rw [hs]; exact hb, fun i hi j u hu => (World.cell?_of_block (hk b hne)).trans (hc i hi j u hu)⟩
 ·rw [hs]
  exact h.r.offN (fun o s _ h1 _ => hR.str h1) hk
def ranM (mode : Int) (n : Nat) (l : List Act) : Mach PE := (Mach.start (poolStart n) n).run poolO mode l
theorem ran_sent (mode : Int) {n : Nat} (hn : n ≤ 8) {l : List Act} (hl : actsE l = 0) : (ranM mode n l).sent.length = 6 := ((start_ok (poolStart n) n mode).run hl).s6
def Deed.told (x : Deed) : ByteArray := tellT x.a.kind.toNat x.st.toNat x.a.text
def catM : List ByteArray → ByteArray
 | [] => ⟨#[]⟩
 | t :: l => msg 82 t ++ catM l
section
variable {mode : Int} {m : Mach Wd}
end
theorem one_did {mode : Int} {d : D} {c : Nat} {r : Req} {W : Wd} {a : Ans} {st : Int} (hf : refB mode r = false) (h : doR d.w c r = (W, a)) (hs : (W.at c).st = st) : d.one mode c r = ⟨W, d.sent.set c (d.sent.getD c ⟨#[]⟩ ++ ansM a st), d.deeds ++ [⟨c, r, a, st⟩]⟩ := by
 have h' : doM d.w c r.k r.key r.val = (W, a) := h
 unfold D.one
 rw [if_neg (by rw [hf]; simp), h', hs]
 rfl
theorem refB_no {mode : Int} {r : Req} (h0 : r.k ≠ 0) (h1 : r.k = 1 → mode ≠ 3) : refB mode r = false := decide_eq_false fun h => h.elim h0 fun hh => h1 hh.1 hh.2
theorem msg_app_nil (x : ByteArray) : (⟨#[]⟩ : ByteArray) ++ x = x := ba_ext (by simp)
theorem app_nil (x : ByteArray) : x ++ (⟨#[]⟩ : ByteArray) = x := ba_ext (by simp)
def catQ : List ByteArray → ByteArray
 | [] => ⟨#[]⟩
 | t :: l => msg 81 t ++ catQ l
theorem pullsA_catQ : ∀ (l : List ByteArray), (∀ t ∈ l, t.size < 256) → pullsA (catQ l) = (l.map (reqOf 81), ⟨#[]⟩, false)
 | [], _ => pullsA_empty
 | t :: l, h => by
  show pullsA (msg 81 t ++ catQ l) = _
  rw [pullsA_msg (h t List.mem_cons_self) (by decide), pullsA_catQ l (fun x hx => h x (List.mem_cons_of_mem _ hx))]
  rfl
section
variable {mode : Int} {m : Mach Wd} {c : Nat}
theorem so_msgs {s : So} {l : List ByteArray} (hb : s.b c = ⟨#[]⟩) (h : ∀ t ∈ l, t.size < 256) : So.act mode s ⟨1, (c : Int), catQ l⟩ = ⟨(l.map (reqOf 81)).foldl (D.one mode c) s.d, s.b⟩ := by
 unfold So.act
 rw [if_pos rfl]
 simp only [Int.toNat_natCast]
 rw [hb, msg_app_nil, pullsA_catQ l h]
 simp only [Bool.false_eq_true, if_false]
 refine so_ext rfl ?_
 show upd s.b c ⟨#[]⟩ = s.b
 rw [← hb]; exact upd_self _ _
end
def msgR (r : Req) : ByteArray := textOf r.k.toNat r.key r.val
def aloneW (W : Wd) (l : List Req) : Wd := l.foldl (fun W r => (doR W 0 r).1) W
def aloneT : Wd → List Req → List ByteArray
 | _, [] => []
 | W, r :: l => tellT (doR W 0 r).2.kind.toNat (((doR W 0 r).1.at 0).st).toNat (doR W 0 r).2.text :: aloneT (doR W 0 r).1 l
theorem aloneT_len : ∀ (l : List Req) (W : Wd), (aloneT W l).length = l.length
 | [], W => rfl
 | r :: l, W => by unfold aloneT; rw [List.length_cons, aloneT_len l]; rfl
theorem text_size {k : Nat} {key v : ByteArray} (h : checkE k key v = 0) : (textOf k key v).size ≤ 60 := by
 obtain ⟨_, _, _, h4⟩ := read_text h
 rcases Nat.lt_or_ge 60 (textOf k key v).size with h' | h'
 ·rw [readE_long h'] at h4; cases h4
 ·exact h'
theorem req_nat {r : Req} (h : r.ok) : ((r.k.toNat : Nat) : Int) = r.k := by have := (good_of h).lo; omega
theorem reqOf_msgR {r : Req} (h : r.ok) : reqOf 81 (msgR r) = r := by
 have h' : checkE (r.k.toNat : Nat) r.key r.val = 0 := by rw [req_nat h]; exact h
 unfold msgR
 rw [reqOf_text h', req_nat h]
theorem msgR_size {r : Req} (h : r.ok) : (msgR r).size ≤ 60 := text_size (by rw [req_nat h]; exact h)
theorem held_set {ss : List Sess} {s : Nat} (x : Sess) (key : ByteArray) : heldB (ss.set s x) s key = heldB ss s key := by
 rw [Bool.eq_iff_iff, heldB_iff, heldB_iff]
 constructor
 ·rintro ⟨k, hk, h1, h2⟩
  have hne : s ≠ k := fun e => h2 (by rw [e])
  rw [List.length_set] at hk
  rw [List.getElem_set_ne hne] at h1
  exact ⟨k, hk, h1, h2⟩
 ·rintro ⟨k, hk, h1, h2⟩
  have hne : s ≠ k := fun e => h2 (by rw [e])
  exact ⟨k, by rw [List.length_set]; exact hk, by rw [List.getElem_set_ne hne]; exact h1, h2⟩
theorem Like.step {A B : Wd} {s c : Nat} (h : Like A B s c) {r : Req} (hr : r.ok) : Like (doR A s r).1 (doR B c r).1 s c ∧ (doR A s r).2 = (doR B c r).2 := by
 obtain ⟨rows, x, a, h1, h2⟩ := h.doM r.k r.key r.val
 have hA := doR_ok h.a h.hs hr
 have hB := doR_ok h.b h.hc hr
 have e1 : doR A s r = (⟨rows, A.ss.set s x⟩, a) := h1
 have e2 : doR B c r = (⟨rows, B.ss.set c x⟩, a) := h2
 rw [e1] at hA ⊢
 rw [e2] at hB ⊢
 refine ⟨⟨hA.1, hB.1, by rw [hA.2]; exact h.hs, by rw [hB.2]; exact h.hc, rfl, ?_, fun key => ?_⟩, rfl⟩
 ·show Wd.at ⟨rows, A.ss.set s x⟩ s = Wd.at ⟨rows, B.ss.set c x⟩ c
  rw [set_at h.hs, set_at h.hc, if_pos rfl, if_pos rfl]
 ·show heldB (A.ss.set s x) s key = heldB (B.ss.set c x) c key
  rw [held_set, held_set, h.held]
section
variable {mode : Int} {m : Mach Wd} {c : Nat}
theorem can_solo (h : MOk mode m) (hn : 1 ≤ m.busy.length) (ho : ∀ x, x ≠ c → (m.get x).srv = none) : canServe m c := by
 cases e : m.busy[0]'(by omega) with
 | false => exact .inr (by rw [← e]; exact List.getElem_mem _)
 | true =>
  obtain ⟨x, hx⟩ := h.own 0 (by rw [List.getElem?_eq_getElem (by omega), e])
  by_cases ex : x = c
  ·rw [ex] at hx; exact .inl (by rw [hx]; rfl)
  ·rw [ho x ex] at hx; cases hx
theorem alone_run (hm : mode ≠ 3) (hc : c < 6) : ∀ {l : List Req} {m : Mach Wd} {W : Wd}, (∀ r ∈ l, r.ok) → Calm mode m → HOk m.d → 1 ≤ m.busy.length → (∀ x, x ≠ c → (m.get x).srv = none) → m.b c = ⟨#[]⟩ → Like m.e W c 0 →
  (m.run houseO mode (l.map fun r => ⟨1, (c : Int), catQ [msgR r]⟩)).sent.getD c ⟨#[]⟩ = m.sent.getD c ⟨#[]⟩ ++ catM (aloneT W l) ∧ (m.run houseO mode (l.map fun r => ⟨1, (c : Int), catQ [msgR r]⟩)).deeds.length = m.deeds.length + l.length ∧ (m.run houseO mode (l.map fun r => ⟨1, (c : Int), catQ [msgR r]⟩)).e.rows = (aloneW W l).rows
 | [], m, W, _, _, _, _, _, _, hl => ⟨(app_nil _).symm, rfl, hl.rows⟩
 | r :: l, m, W, hr, h, hd, hn, ho, hb, hl => by
  have hro := hr r List.mem_cons_self
  have hsz := msgR_size hro
  have ha : actE ⟨1, (c : Int), catQ [msgR r]⟩ = 0 := by
   unfold actE
   have : (catQ [msgR r]).size = (msgR r).size + 2 := by show (msg 81 (msgR r) ++ (⟨#[]⟩ : ByteArray)).size = _; rw [app_nil, msg_size]
   rw [if_neg (by simp), if_neg (by simp only; omega), if_neg (by simp only; omega)]
  obtain ⟨A, hd2⟩ := act_after h hd ha (can_solo h.ok hn ho)
  have hso := A.so
  rw [so_msgs (s := m.so) hb (by intro t ht; rw [List.mem_singleton.1 ht]; omega)] at hso
  simp only [List.map_cons, List.map_nil, reqOf_msgR hro, List.foldl_cons, List.foldl_nil] at hso
  obtain ⟨hl2, hans⟩ := hl.step hro
  have hf : refB mode r = false := refB_no (by have := (good_of hro).lo; omega) (fun _ => hm)
  have hst : ((doR m.e c r).1.at c).st = ((doR W 0 r).1.at 0).st := by rw [hl2.me]
  rw [one_did (mode := mode) (d := m.so.d) (W := (doR m.e c r).1) (a := (doR m.e c r).2) (st := ((doR W 0 r).1.at 0).st) hf rfl hst, hans] at hso
  have e1 : (m.act houseO mode ⟨1, (c : Int), catQ [msgR r]⟩).e = (doR m.e c r).1 := congrArg (fun s => s.d.w) hso
  have e2 : (m.act houseO mode ⟨1, (c : Int), catQ [msgR r]⟩).sent = m.sent.set c (m.sent.getD c ⟨#[]⟩ ++ ansM (doR W 0 r).2 ((doR W 0 r).1.at 0).st) := congrArg (fun s => s.d.sent) hso
  have e3 : (m.act houseO mode ⟨1, (c : Int), catQ [msgR r]⟩).deeds.length = m.deeds.length + 1 := (congrArg (fun s => s.d.deeds.length) hso).trans (by show (m.deeds ++ [_]).length = _; simp)
  have e4 : (m.act houseO mode ⟨1, (c : Int), catQ [msgR r]⟩).b = m.b := congrArg (fun s => s.b) hso
  have I := alone_run hm hc (l := l) (m := m.act houseO mode ⟨1, (c : Int), catQ [msgR r]⟩) (W := (doR W 0 r).1) (fun q hq => hr q (List.mem_cons_of_mem _ hq)) A.calm hd2 (by rw [A.len]; exact hn) (fun x hx => by rw [A.oth x (by rw [Int.toNat_natCast]; exact hx)]; exact ho x hx) (by rw [e4]; exact hb) (by rw [e1]; exact hl2)
  have hs : c < m.sent.length := by rw [h.ok.s6]; exact hc
  refine ⟨?_, ?_, I.2.2⟩
  ·show ((m.act houseO mode ⟨1, (c : Int), catQ [msgR r]⟩).run houseO mode (l.map fun r => ⟨1, (c : Int), catQ [msgR r]⟩)).sent.getD c ⟨#[]⟩ = _
   rw [I.1, e2, getD_set, if_pos ⟨rfl, hs⟩, ByteArray.append_assoc]
   rfl
  ·show ((m.act houseO mode ⟨1, (c : Int), catQ [msgR r]⟩).run houseO mode (l.map fun r => ⟨1, (c : Int), catQ [msgR r]⟩)).deeds.length = _
   rw [I.2.1, e3, List.length_cons]; omega
theorem top_alone (hm : mode ≠ 3) (hc : c < 6) {n : Nat} (hn : 1 ≤ n) {l : List Req} (hr : ∀ r ∈ l, r.ok) :
  ((Mach.start houseStart n).run houseO mode (l.map fun r => ⟨1, (c : Int), catQ [msgR r]⟩)).sent.getD c ⟨#[]⟩ = catM (aloneT ⟨[], [Sess.zero]⟩ l) ∧ ((Mach.start houseStart n).run houseO mode (l.map fun r => ⟨1, (c : Int), catQ [msgR r]⟩)).deeds.length = l.length ∧ ((Mach.start houseStart n).run houseO mode (l.map fun r => ⟨1, (c : Int), catQ [msgR r]⟩)).e.rows = (aloneW ⟨[], [Sess.zero]⟩ l).rows := by
 have hz := zeros_ok (n := 1) (by omega)
 have hh : ∀ (W : Wd) (n : Nat), W = ⟨[], List.replicate n Sess.zero⟩ → ∀ (i : Int) key, heldB W.ss i key = false := fun W n e i key => by
  refine heldB_no fun k hk hf => ?_
  subst e
  simp [Sess.zero, fndL, atL] at hf
 have lk : Like (Mach.start houseStart n).e ⟨[], [Sess.zero]⟩ c 0 := ⟨zeros_ok (n := 6) (by omega), hz, by simp [Mach.start, houseStart]; omega, by simp, rfl, by rw [show (Mach.start houseStart n).e = houseStart from rfl, house_at]; rfl, fun key => by
  exact (hh (Mach.start houseStart n).e 6 rfl _ key).trans (hh ⟨[], [Sess.zero]⟩ 1 rfl _ key).symm⟩
 have := alone_run hm hc (l := l) (m := Mach.start houseStart n) hr (start_calm n) (hok_start n) (by simp [Mach.start]; omega) (fun x _ => start_srv n x) (by
  show ((Mach.start houseStart n).get c).bytes = _
  unfold Mach.get Mach.start; simp only; rw [List.getD_eq_getElem?_getD, List.getElem?_replicate]; split <;> rfl) lk
 have e0 : (Mach.start houseStart n).sent.getD c ⟨#[]⟩ = ⟨#[]⟩ := by
  unfold Mach.start; simp only; rw [List.getD_eq_getElem?_getD, List.getElem?_replicate]; split <;> rfl
 rw [e0, msg_app_nil] at this
 exact ⟨this.1, by rw [this.2.1]; simp [Mach.start], this.2.2⟩
end
theorem aloneT_snoc (W : Wd) (l : List Req) (r : Req) : aloneT W (l ++ [r]) = aloneT W l ++ aloneT (aloneW W l) [r] := by
 induction l generalizing W with
 | nil => rfl
 | cons x l ih =>
  rw [List.cons_append]
  simp only [aloneT, aloneW] at ih ⊢
  rw [ih]; rfl
theorem aloneW_snoc (W : Wd) (l : List Req) (r : Req) : aloneW W (l ++ [r]) = aloneW (aloneW W l) [r] := by
 induction l generalizing W with
 | nil => rfl
 | cons x l ih =>
  rw [List.cons_append]
  simp only [aloneW] at ih ⊢
  exact ih _
theorem alone_pool {mode : Int} {c : Nat} (hm : mode ≠ 3) (hc : c < 6) {n : Nat} (hn : 1 ≤ n) (hn' : n ≤ 8) {l : List Req} (hr : ∀ r ∈ l, r.ok) (hl : actsE (l.map fun r => ⟨1, (c : Int), catQ [msgR r]⟩) = 0) :
  (ranM mode n (l.map fun r => ⟨1, (c : Int), catQ [msgR r]⟩)).sent.getD c ⟨#[]⟩ = catM (aloneT ⟨[], [Sess.zero]⟩ l) ∧ (ranM mode n (l.map fun r => ⟨1, (c : Int), catQ [msgR r]⟩)).deeds.length = l.length ∧ (ranM mode n (l.map fun r => ⟨1, (c : Int), catQ [msgR r]⟩)).e.w.rows = (aloneW ⟨[], [Sess.zero]⟩ l).rows := by
 have a1 := pool_house hn' mode hl
 unfold ranM
 rw [a1.sent, a1.deeds, a1.rows]
 exact top_alone hm hc hn hr
theorem catQ_one (t : ByteArray) : catQ [t] = msg 81 t := app_nil _
theorem catQ1_size {r : Req} (h : r.ok) : (catQ [msgR r]).size ≤ 1000 := by
 rw [catQ_one, msg_size]
 have := text_size (k := r.k.toNat) (key := r.key) (v := r.val) (by rw [req_nat h]; exact h)
 show (msgR r).size + 2 ≤ 1000
 unfold msgR
 omega
theorem alone_E {c : Nat} (hc : c < 6) {l : List Req} (hr : ∀ r ∈ l, r.ok) : actsE (l.map fun r => ⟨1, (c : Int), catQ [msgR r]⟩) = 0 := actsE_all fun a ha => by
 obtain ⟨r, hm, rfl⟩ := List.mem_map.1 ha
 have := catQ1_size (hr r hm)
 unfold actE
 simp only
 rw [if_neg (by simp), if_neg (by omega), if_neg (by omega)]
def toR (t : St3) : Req := ⟨t.1, t.2.1, t.2.2⟩
theorem cell_stz {w : World} {p q : Addr} {u v : Value} (hp : p.block ≠ q.block) (h : w.cell? q = some v) : (w.setCell p u).cell? q = some v := (World.cell?_setCell_other _ _ _ _ (fun e => hp (by rw [e]))).trans h
theorem lastM_snoc {i : Nat} {r : Req} : ∀ {l : List Req} {W : Wd} {a : Ans × Int}, lastM i W a (l ++ [r]) = ((doR (saidM i W l) i r).2, ((doR (saidM i W l) i r).1.at i).st)
 | [], W, a => rfl
 | x :: l, W, a => lastM_snoc (l := l) (W := (doR W i x).1)
theorem saidM_snoc {i : Nat} {r : Req} {l : List Req} {W : Wd} : saidM i W (l ++ [r]) = (doR (saidM i W l) i r).1 := by unfold saidM; rw [List.foldl_append]; rfl
theorem said_ok {i : Nat} : ∀ {l : List Req} {W : Wd}, WorldOk W → i < W.ss.length → (∀ r ∈ l, r.ok) → WorldOk (saidM i W l) ∧ (saidM i W l).ss.length = W.ss.length
 | [], W, h, _, _ => ⟨h, rfl⟩
 | r :: l, W, h, hi, hr => by
  have h1 := doR_ok h hi (hr r List.mem_cons_self)
  have := said_ok (l := l) h1.1 (by rw [h1.2]; exact hi) (fun q hq => hr q (List.mem_cons_of_mem _ hq))
  exact ⟨this.1, this.2.trans h1.2⟩
theorem sl_one1 {w : World} {g t : Nat} {k : Int} {key val : ByteArray} (h : RowTo w g t 3 [.int .i64 k, .string key, .string val]) : SLst w w.heap.size (.slice (some ⟨g, 0, none⟩) 1 1) [(k, key, val)] := by
 obtain ⟨c0, c1, c2⟩ := cells3 h
 refine ⟨⟨_, 1, rfl, by simp⟩, by simp, fun _ => ⟨g, 0, 1, rfl, h.lt, fun i hi => ?_⟩⟩
 obtain rfl : i = 0 := by simp at hi; exact hi
 exact ⟨c0, c1, c2⟩
theorem WldP.set2 {w : World} {P : Nat → Prop} {R t : Nat} {a b : Option Addr} {n m c d : Nat} {r s : Value} {W : Wd} (h : WldP w P r s W) (hR : RowTo w R t 2 [.slice a n c, .slice b m d]) (x y : Value) : WldP ((w.setCell ⟨R, 0, none⟩ x).setCell ⟨R, 1, none⟩ y) P r s W :=
 h.off (noTwo_world hR) (noSes_world hR) (by simp [World.setCell]) fun b hb => by rw [Below.heap_setCell _ _ _ _ hb, Below.heap_setCell _ _ _ _ hb]
theorem WldP.set3 {w : World} {P : Nat → Prop} {R : Nat} {x y : Int} {z : ByteArray} {r s : Value} {W : Wd} (h : WldP w P r s W) (hR : RowTo w R 46 3 [.int .i64 x, .string z, .int .i64 y]) (a b c : Value) : WldP (((w.setCell ⟨R, 0, none⟩ a).setCell ⟨R, 1, none⟩ b).setCell ⟨R, 2, none⟩ c) P r s W :=
 h.off (noTwo_answer hR) (noSes_answer hR) (by simp [World.setCell]) fun b hb => by rw [Below.heap_setCell _ _ _ _ hb, Below.heap_setCell _ _ _ _ hb, Below.heap_setCell _ _ _ _ hb]
structure SaidAtP (Q : Nat → Prop) (w wr : World) (W : Wd) (a : Ans × Int) (r s : Value) : Prop where
 X : RowTo wr w.heap.size 39 2 [r, s]
 R : RowTo wr (w.heap.size + 1) 39 2 [.slice none 0 0, .slice none 0 0]
 A : RowTo wr (w.heap.size + 1 + 1) 46 3 [.int .i64 0, .string ⟨#[]⟩, .int .i64 0]
 Y : RowTo wr (w.heap.size + 1 + 1 + 1) 46 3 [.int .i64 a.1.kind, .string a.1.text, .int .i64 a.2]
 wld : WldP wr (fun b => Q b ∨ w.heap.size ≤ b) r s W
 bel : Below w.heap.size w wr
theorem SaidAtP.round {Q : Nat → Prop} {w wr w2 : World} {W V : Wd} {a b : Ans × Int} {D2 A2 D A : Option Addr} {d2 c2 d c : Nat} {o1 : Obj} (h : SaidAtP Q w wr W a (.slice D W.rows.length d) (.slice A W.ss.length c)) (hb : Below (wr.alloc o1).heap.size (wr.alloc o1) w2) (hw : WldP w2 (fun b => (wr.alloc o1).heap.size ≤ b) (.slice D2 V.rows.length d2) (.slice A2 V.ss.length c2) V) (o2 o3 : Obj) :
  SaidAtP Q w (((((((w2.alloc o2).alloc o3).setCell ⟨w.heap.size, 0, none⟩ (.slice D2 V.rows.length d2)).setCell ⟨w.heap.size, 1, none⟩ (.slice A2 V.ss.length c2)).setCell ⟨w.heap.size + 1 + 1 + 1, 0, none⟩ (.int .i64 b.1.kind)).setCell ⟨w.heap.size + 1 + 1 + 1, 1, none⟩ (.string b.1.text)).setCell ⟨w.heap.size + 1 + 1 + 1, 2, none⟩ (.int .i64 b.2)) V b (.slice D2 V.rows.length d2) (.slice A2 V.ss.length c2) := by
 have al := (Below.refl wr.heap.size wr).alloc (nL _) o1
 have n2 := ((Below.refl w2.heap.size w2).alloc (nL _) o2).alloc (by simp) o3
 have hb' : Below wr.heap.size wr ((w2.alloc o2).alloc o3) := bel_add' (bel_add' al hb al.size) n2 (bel_add' al hb al.size).size
 have X2 := h.X.below hb' h.X.lt
 have R2 := h.R.below hb' h.R.lt
 have A2' := h.A.below hb' h.A.lt
 have Y2 := h.Y.below hb' h.Y.lt
 have w3 : WldP ((w2.alloc o2).alloc o3) (fun b => Q b ∨ w.heap.size ≤ b) _ _ V := (hw.mono (fun b hb => Or.inr (by have := h.bel.size; rw [World.size_alloc] at hb; omega))).below n2
 refine ⟨(X2.set2 _ _).oth3 (by omega) _ _ _, (R2.oth2 (by omega) _ _).oth3 (by omega) _ _ _, (A2'.oth2 (by omega) _ _).oth3 (by omega) _ _ _, (Y2.oth2 (by omega) _ _).set3 _ _ _, (w3.set2 X2 _ _).set3 (Y2.oth2 (by omega) _ _) _ _ _, ?_⟩
 exact bel_set3 (bel_set2 (bel_add' h.bel hb' h.bel.size) (nL _) _ _) (by omega) _ _ _
theorem SaidAtP.drew {Q : Nat → Prop} {w wr : World} {W : Wd} {a : Ans × Int} {r s : Value} (h : SaidAtP Q w wr W a r s) : SaidAtP Q w wr.drew W a r s := ⟨h.X, h.R, h.A, h.Y, h.wld.below ((Below.refl _ _).drew), h.bel.drew⟩
theorem SaidAtP.fin {Q : Nat → Prop} {w wr : World} {W : Wd} {a : Ans × Int} {D A : Option Addr} {d c : Nat} (h : SaidAtP Q w wr W a (.slice D W.rows.length d) (.slice A W.ss.length c)) :
  WldP (((((wr.setCell ⟨w.heap.size + 1, 0, none⟩ (.slice D W.rows.length d)).setCell ⟨w.heap.size + 1, 1, none⟩ (.slice A W.ss.length c)).setCell ⟨w.heap.size + 1 + 1, 0, none⟩ (.int .i64 a.1.kind)).setCell ⟨w.heap.size + 1 + 1, 1, none⟩ (.string a.1.text)).setCell ⟨w.heap.size + 1 + 1, 2, none⟩ (.int .i64 a.2)) (fun b => Q b ∨ w.heap.size ≤ b) (.slice D W.rows.length d) (.slice A W.ss.length c) W ∧
  Below w.heap.size w (((((wr.setCell ⟨w.heap.size + 1, 0, none⟩ (.slice D W.rows.length d)).setCell ⟨w.heap.size + 1, 1, none⟩ (.slice A W.ss.length c)).setCell ⟨w.heap.size + 1 + 1, 0, none⟩ (.int .i64 a.1.kind)).setCell ⟨w.heap.size + 1 + 1, 1, none⟩ (.string a.1.text)).setCell ⟨w.heap.size + 1 + 1, 2, none⟩ (.int .i64 a.2)) :=
 ⟨(h.wld.set2 h.R _ _).set3 (h.A.oth2 (by omega) _ _) _ _ _, bel_set3 (bel_set2 h.bel (by omega) _ _) (by omega) _ _ _⟩
set_option maxHeartbeats 4000000 in
theorem said_new {Q : Nat → Prop} (r s : Value) (W : Wd) (i : Nat) (v : Value) (l : List St3) (w : World) (hW : WldP w Q r s W) (hl : SLst w w.heap.size v l) (hWo : Words w) (hok : WorldOk W) (hi : i < W.ss.length) (hr : ∀ t ∈ l, (toR t).ok) :
  Calls Tryz.prog 12 #[.agg #[r, s], .int .i64 i, v] w fun e w' => ∃ r' s', e = .returned (.tuple #[.agg #[r', s'], .agg #[.int .i64 (lastM i W (⟨0, ⟨#[]⟩⟩, 0) (l.map toR)).1.kind, .string (lastM i W (⟨0, ⟨#[]⟩⟩, 0) (l.map toR)).1.text, .int .i64 (lastM i W (⟨0, ⟨#[]⟩⟩, 0) (l.map toR)).2], .bool true]) ∧
   WldP w' (fun b => Q b ∨ w.heap.size ≤ b) r' s' (saidM i W (l.map toR)) ∧ Below w.heap.size w w' := by
 obtain ⟨A, c, rfl, hc⟩ := hW.wld.sess.form
 obtain ⟨D, d, rfl, hd⟩ := hW.wld.rows.form
 obtain ⟨E, e, rfl, he⟩ := hl.form
 have HW := jD hW
 have HL := jD hl
 have HWo := jD hWo
 have HOK := jD hok
 have HR := jD hr
 have hsm := hl.small
 clear hW hl hWo hok hr
 go_enter Tryz.func12, Tryz.ntmps12
 go_wp2
 go_loopw [18] (fun j wr => ∃ k : Nat, k ≤ l.length ∧ j = .int .i64 k ∧ Hid (∃ r s, SaidAtP Q w wr (saidM i W ((l.take k).map toR)) (lastM i W (⟨0, ⟨#[]⟩⟩, 0) ((l.take k).map toR)) r s)) (fun j _ => l.length - (intOf j).toNat)
 case atStart =>
  have b1 := (Below.refl w.heap.size w).alloc (nL _) (.cells #[.slice D W.rows.length d, .slice A W.ss.length c] 39)
  have b2 := b1.alloc (by simp) (.cells #[.slice none 0 0, .slice none 0 0] 39)
  have b3 := b2.alloc (by simp; omega) (.cells #[.int .i64 0, .string ⟨#[]⟩, .int .i64 0] 46)
  have b4 := b3.alloc (by simp; omega) (.cells #[.int .i64 0, .string ⟨#[]⟩, .int .i64 0] 46)
  have x2 := ((RowTo.whole (w.alloc (.cells #[.slice D W.rows.length d, .slice A W.ss.length c] 39)) #[.slice none 0 0, .slice none 0 0] 39).alloc (.cells #[.int .i64 0, .string ⟨#[]⟩, .int .i64 0] 46)).alloc (.cells #[.int .i64 0, .string ⟨#[]⟩, .int .i64 0] 46)
  have x3 := (RowTo.whole ((w.alloc (.cells #[.slice D W.rows.length d, .slice A W.ss.length c] 39)).alloc (.cells #[.slice none 0 0, .slice none 0 0] 39)) #[.int .i64 0, .string ⟨#[]⟩, .int .i64 0] 46).alloc (.cells #[.int .i64 0, .string ⟨#[]⟩, .int .i64 0] 46)
  have x4 := RowTo.whole (((w.alloc (.cells #[.slice D W.rows.length d, .slice A W.ss.length c] 39)).alloc (.cells #[.slice none 0 0, .slice none 0 0] 39)).alloc (.cells #[.int .i64 0, .string ⟨#[]⟩, .int .i64 0] 46)) #[.int .i64 0, .string ⟨#[]⟩, .int .i64 0] 46
  simp only [World.size_alloc] at x2 x3 x4
  exact ⟨0, by omega, rfl, _, _, (((RowTo.whole w #[.slice D W.rows.length d, .slice A W.ss.length c] _).alloc _).alloc _).alloc _, x2, x3, x4, (HW.out.mono (fun b hb => Or.inl hb)).below b4, b4⟩
 case round =>
  obtain ⟨k, hk, rfl, hR⟩ := hrel
  obtain ⟨r, s, hR⟩ := hR.out
  have hokk := said_ok (l := (l.take k).map toR) HOK.out hi (fun q hq => by obtain ⟨t, ht, rfl⟩ := List.mem_map.1 hq; exact HR.out t (List.mem_of_mem_take ht))
  have HRR := jD hR
  by_cases hlt : k < l.length
  ·have hs1 : (l.take (k + 1)).map toR = (l.take k).map toR ++ [toR l[k]] := by rw [List.take_succ_eq_append_getElem hlt, List.map_append]; rfl
   have HS1 := jD (show saidM i W ((l.take (k + 1)).map toR) = (doR (saidM i W ((l.take k).map toR)) i (toR l[k])).1 by rw [hs1, saidM_snoc])
   have HS2 := jD (show lastM i W (⟨0, ⟨#[]⟩⟩, 0) ((l.take (k + 1)).map toR) = ((doR (saidM i W ((l.take k).map toR)) i (toR l[k])).2, ((doR (saidM i W ((l.take k).map toR)) i (toR l[k])).1.at i).st) by rw [hs1, lastM_snoc])
   clear hs1
   have hgood := HR.out l[k] (List.getElem_mem hlt)
   generalize saidM i W ((l.take k).map toR) = Wk at *
   generalize lastM i W (⟨0, ⟨#[]⟩⟩, 0) ((l.take k).map toR) = ak at *
   obtain ⟨b, off, rfl, hb, l0, l1, l2⟩ := HL.out.pt hlt
   generalize hx : l[k] = x at *
   obtain ⟨xk, xe, xv⟩ := x
   clear hx
   have bl := hR.bel
   have d0 := (bl.cell (p := ⟨b, off + k * 3, none⟩) hb).trans l0
   have d1 := (bl.cell (p := ⟨b, off + k * 3 + 1, none⟩) hb).trans l1
   have d2 := (bl.cell (p := ⟨b, off + k * 3 + 2, none⟩) hb).trans l2
   simp only at d0 d1 d2
   obtain ⟨A1, c1, rfl, _⟩ := hR.wld.wld.sess.form
   obtain ⟨D1, d1', rfl, _⟩ := hR.wld.wld.rows.form
   obtain ⟨x0, x1⟩ := cells2 hR.X
   have hXw := hR.X.lt
   have hYw := hR.Y.lt
   have hsz := bl.size
   have HG := jD hgood
   have HOK1 := jD hokk
   clear hR bl l0 l1 l2 hgood hokk
   go_wp2_with fail
   have al := (Below.refl wr.heap.size wr).alloc (nL _) (.cells #[.int .i64 xk, .string xe, .string xv] 41)
   refine (do_new _ _ Wk i xk xe xv _ (HRR.out.wld.wld.step al) (HWo.out.below (bel_add' HRR.out.bel al HRR.out.bel.size)) HOK1.out.1 (by rw [HOK1.out.2]; exact hi) HG.out).mono ?_
   rintro e1 w2 ⟨r2, s2, rfl, hw2, hb2⟩
   have HV := jD (show doR Wk i (toR (xk, xe, xv)) = doM Wk i xk xe xv from rfl)
   obtain ⟨q, HQ⟩ : ∃ q, Hid (doM Wk i xk xe xv = q) := ⟨_, jD rfl⟩
   rw [HV.out, HQ.out] at HS1 HS2
   rw [HQ.out] at hw2 ⊢
   obtain ⟨st, HST⟩ : ∃ st, Hid ((q.1.at i).st = st) := ⟨_, jD rfl⟩
   rw [HST.out] at HS2 ⊢
   obtain ⟨A2, c2, rfl, _⟩ := hw2.wld.sess.form
   obtain ⟨D2, d2', rfl, _⟩ := hw2.wld.rows.form
   have HW2 := jD hw2
   have HB2 := jD hb2
   have hz2 := hb2.size
   simp only [World.size_alloc] at hz2
   clear hw2 hb2 d0 d1 d2 x0 x1 al
   unfold doGood
   go_wp2
   have n2 := ((Below.refl w2.heap.size w2).alloc (nL _) (.cells #[.slice D2 q.1.rows.length d2', .slice A2 q.1.ss.length c2] 39)).alloc (by simp) (.cells #[.int .i64 q.2.kind, .string q.2.text, .int .i64 st] 46)
   have P0 := (RowTo.whole w2 #[.slice D2 q.1.rows.length d2', .slice A2 q.1.ss.length c2] 39).alloc (.cells #[.int .i64 q.2.kind, .string q.2.text, .int .i64 st] 46)
   have P1 := RowTo.whole (w2.alloc (.cells #[.slice D2 q.1.rows.length d2', .slice A2 q.1.ss.length c2] 39)) #[.int .i64 q.2.kind, .string q.2.text, .int .i64 st] 46
   rw [World.size_alloc] at P1
   have hXb := (HRR.out.X.alloc (.cells #[.int .i64 xk, .string xe, .string xv] 41)).below HB2.out (by simp; omega)
   have hYb := (HRR.out.Y.alloc (.cells #[.int .i64 xk, .string xe, .string xv] 41)).below HB2.out (by simp; omega)
   have hX2 := hXb.below n2 hXb.lt
   have hY2 := hYb.below n2 hYb.lt
   obtain ⟨q0, q1⟩ := cells2 P0
   obtain ⟨p0, p1, p2⟩ := cells3 P1
   obtain ⟨x0, x1⟩ := cells2 hX2
   obtain ⟨y0, y1, y2⟩ := cells3 hY2
   have f0 := hX2.frozen 0
   have f1 := hX2.frozen 1
   have g0 := (hY2.oth2 (R := w.heap.size) (by omega) (.slice D2 q.1.rows.length d2') (.slice A2 q.1.ss.length c2)).frozen 0
   have g1 := (hY2.oth2 (R := w.heap.size) (by omega) (.slice D2 q.1.rows.length d2') (.slice A2 q.1.ss.length c2)).frozen 1
   have g2 := (hY2.oth2 (R := w.heap.size) (by omega) (.slice D2 q.1.rows.length d2') (.slice A2 q.1.ss.length c2)).frozen 2
   have e1 : w.heap.size ≠ w2.heap.size := by omega
   have e2 : w.heap.size ≠ w2.heap.size + 1 := by omega
   clear n2 P0 P1 hXb hYb hX2 hY2
   refine wp_region_z 3 (fun wx => wx.cell? ⟨w2.heap.size, 0, none⟩ = some (.slice D2 q.1.rows.length d2') ∧ wx.cell? ⟨w2.heap.size, 1, none⟩ = some (.slice A2 q.1.ss.length c2) ∧ wx.cell? ⟨w2.heap.size + 1, 0, none⟩ = some (.int .i64 q.2.kind) ∧ wx.cell? ⟨w2.heap.size + 1, 1, none⟩ = some (.string q.2.text) ∧ wx.cell? ⟨w2.heap.size + 1, 2, none⟩ = some (.int .i64 st)) (by kernel_rfl) (show ((w2.alloc (.cells #[.slice D2 q.1.rows.length d2', .slice A2 q.1.ss.length c2] 39)).alloc (.cells #[.int .i64 q.2.kind, .string q.2.text, .int .i64 st] 46)).drew.cell? ⟨w2.heap.size, 0, none⟩ = some (.slice D2 q.1.rows.length d2') ∧ ((w2.alloc (.cells #[.slice D2 q.1.rows.length d2', .slice A2 q.1.ss.length c2] 39)).alloc (.cells #[.int .i64 q.2.kind, .string q.2.text, .int .i64 st] 46)).drew.cell? ⟨w2.heap.size, 1, none⟩ = some (.slice A2 q.1.ss.length c2) ∧ ((w2.alloc (.cells #[.slice D2 q.1.rows.length d2', .slice A2 q.1.ss.length c2] 39)).alloc (.cells #[.int .i64 q.2.kind, .string q.2.text, .int .i64 st] 46)).drew.cell? ⟨w2.heap.size + 1, 0, none⟩ = some (.int .i64 q.2.kind) ∧ ((w2.alloc (.cells #[.slice D2 q.1.rows.length d2', .slice A2 q.1.ss.length c2] 39)).alloc (.cells #[.int .i64 q.2.kind, .string q.2.text, .int .i64 st] 46)).drew.cell? ⟨w2.heap.size + 1, 1, none⟩ = some (.string q.2.text) ∧ ((w2.alloc (.cells #[.slice D2 q.1.rows.length d2', .slice A2 q.1.ss.length c2] 39)).alloc (.cells #[.int .i64 q.2.kind, .string q.2.text, .int .i64 st] 46)).drew.cell? ⟨w2.heap.size + 1, 2, none⟩ = some (.int .i64 st) from ⟨q0, q1, p0, p1, p2⟩) (fun hS => ?_)
   refine tkE [(0, []), (1, [])] ?_
   iterate 2
    refine tkS (v := ?_) hS ?_ ?_
    rotate_left
    ·(intro w hSw; (try dsimp only at hSw); (try simp only [gTA, gCZ, gCS]); go_simp; try with_reducible rfl)
    (try simp only [gTA, gCZ, gCS, Act.put, sTA, sCZ, sCS])
   refine tkF ?_
   refine wpAnyZ_one (i := 2) rfl rfl (by kernel_rfl) (fun K hK => ?_)
   (try simp only [gTA, gCZ, gCS])
   go_simp
   have hS2 := (show ((((w2.alloc (.cells #[.slice D2 q.1.rows.length d2', .slice A2 q.1.ss.length c2] 39)).alloc (.cells #[.int .i64 q.2.kind, .string q.2.text, .int .i64 st] 46)).drew.setCell ⟨w.heap.size, 0, none⟩ (.slice D2 q.1.rows.length d2')).setCell ⟨w.heap.size, 1, none⟩ (.slice A2 q.1.ss.length c2)).cell? ⟨w2.heap.size, 0, none⟩ = some (.slice D2 q.1.rows.length d2') ∧ ((((w2.alloc (.cells #[.slice D2 q.1.rows.length d2', .slice A2 q.1.ss.length c2] 39)).alloc (.cells #[.int .i64 q.2.kind, .string q.2.text, .int .i64 st] 46)).drew.setCell ⟨w.heap.size, 0, none⟩ (.slice D2 q.1.rows.length d2')).setCell ⟨w.heap.size, 1, none⟩ (.slice A2 q.1.ss.length c2)).cell? ⟨w2.heap.size, 1, none⟩ = some (.slice A2 q.1.ss.length c2) ∧ ((((w2.alloc (.cells #[.slice D2 q.1.rows.length d2', .slice A2 q.1.ss.length c2] 39)).alloc (.cells #[.int .i64 q.2.kind, .string q.2.text, .int .i64 st] 46)).drew.setCell ⟨w.heap.size, 0, none⟩ (.slice D2 q.1.rows.length d2')).setCell ⟨w.heap.size, 1, none⟩ (.slice A2 q.1.ss.length c2)).cell? ⟨w2.heap.size + 1, 0, none⟩ = some (.int .i64 q.2.kind) ∧ ((((w2.alloc (.cells #[.slice D2 q.1.rows.length d2', .slice A2 q.1.ss.length c2] 39)).alloc (.cells #[.int .i64 q.2.kind, .string q.2.text, .int .i64 st] 46)).drew.setCell ⟨w.heap.size, 0, none⟩ (.slice D2 q.1.rows.length d2')).setCell ⟨w.heap.size, 1, none⟩ (.slice A2 q.1.ss.length c2)).cell? ⟨w2.heap.size + 1, 1, none⟩ = some (.string q.2.text) ∧ ((((w2.alloc (.cells #[.slice D2 q.1.rows.length d2', .slice A2 q.1.ss.length c2] 39)).alloc (.cells #[.int .i64 q.2.kind, .string q.2.text, .int .i64 st] 46)).drew.setCell ⟨w.heap.size, 0, none⟩ (.slice D2 q.1.rows.length d2')).setCell ⟨w.heap.size, 1, none⟩ (.slice A2 q.1.ss.length c2)).cell? ⟨w2.heap.size + 1, 2, none⟩ = some (.int .i64 st) from ⟨cell_stz (p := ⟨w.heap.size, 1, none⟩) e1 (cell_stz (p := ⟨w.heap.size, 0, none⟩) e1 hS.1), cell_stz (p := ⟨w.heap.size, 1, none⟩) e1 (cell_stz (p := ⟨w.heap.size, 0, none⟩) e1 hS.2.1), cell_stz (p := ⟨w.heap.size, 1, none⟩) e2 (cell_stz (p := ⟨w.heap.size, 0, none⟩) e2 hS.2.2.1), cell_stz (p := ⟨w.heap.size, 1, none⟩) e2 (cell_stz (p := ⟨w.heap.size, 0, none⟩) e2 hS.2.2.2.1), cell_stz (p := ⟨w.heap.size, 1, none⟩) e2 (cell_stz (p := ⟨w.heap.size, 0, none⟩) e2 hS.2.2.2.2)⟩)
   refine hK.out _ _ hS2 ?_
   clear hK K hS
   have hS := hS2
   clear hS2
   (try simp only [gTA, gCZ, gCS, Act.put, sTA, sCZ, sCS])
   refine wpAnyZ_last rfl rfl (by kernel_rfl) (by kernel_rfl) (fun K hK => ?_)
   (try simp only [gTA, gCZ, gCS])
   go_simp
   refine hK.out _ _ ?_
   clear hK K
   (try simp only [gTA, gCZ, gCS, Act.put, sTA, sCZ, sCS])
   clear hS q0 q1 p0 p1 p2 x0 x1 y0 y1 y2 f0 f1 g0 g1 g2 e1 e2
   go_wp2
   go_roundw
   case rel =>
    refine ⟨k + 1, by omega, by go_num, .slice D2 q.1.rows.length d2', .slice A2 q.1.ss.length c2, ?_⟩
    rw [HS1.out, HS2.out]
    exact (HRR.out.round (b := (q.2, st)) HB2.out HW2.out _ _).drew
   case measure => simp [intOf]; omega
  ·obtain rfl : k = l.length := by omega
   rw [List.take_of_length_le (nL _)] at HRR hR
   obtain ⟨Wk, HWk⟩ : ∃ x, Hid (saidM i W (l.map toR) = x) := ⟨_, jD rfl⟩
   obtain ⟨ak, HAk⟩ : ∃ x, Hid (lastM i W (⟨0, ⟨#[]⟩⟩, 0) (l.map toR) = x) := ⟨_, jD rfl⟩
   rw [HWk.out, HAk.out] at HRR hR
   obtain ⟨A1, c1, rfl, _⟩ := hR.wld.wld.sess.form
   obtain ⟨D1, d1', rfl, _⟩ := hR.wld.wld.rows.form
   obtain ⟨x0, x1⟩ := cells2 hR.X
   obtain ⟨y0, y1, y2⟩ := cells3 hR.Y
   obtain ⟨r0, r1⟩ := cells2 hR.R
   obtain ⟨a0, a1, a2⟩ := cells3 hR.A
   have f0 := hR.R.frozen 0
   have f1 := hR.R.frozen 1
   have g0 := hR.A.frozen 0
   have g1 := hR.A.frozen 1
   have g2 := hR.A.frozen 2
   clear hR hokk
   go_wp2
   have e1 : w.heap.size + 1 ≠ w.heap.size := by omega
   have e2 : w.heap.size + 1 ≠ w.heap.size + 1 + 1 + 1 := by omega
   have e3 : w.heap.size + 1 + 1 ≠ w.heap.size := by omega
   have e4 : w.heap.size + 1 + 1 ≠ w.heap.size + 1 + 1 + 1 := by omega
   refine wp_region_z 4 (fun wx => wx.cell? ⟨w.heap.size, 0, none⟩ = some (.slice D1 Wk.rows.length d1') ∧ wx.cell? ⟨w.heap.size, 1, none⟩ = some (.slice A1 Wk.ss.length c1) ∧ wx.cell? ⟨w.heap.size + 1 + 1 + 1, 0, none⟩ = some (.int .i64 ak.1.kind) ∧ wx.cell? ⟨w.heap.size + 1 + 1 + 1, 1, none⟩ = some (.string ak.1.text) ∧ wx.cell? ⟨w.heap.size + 1 + 1 + 1, 2, none⟩ = some (.int .i64 ak.2)) (by kernel_rfl) (show wr.drew.cell? ⟨w.heap.size, 0, none⟩ = some (.slice D1 Wk.rows.length d1') ∧ wr.drew.cell? ⟨w.heap.size, 1, none⟩ = some (.slice A1 Wk.ss.length c1) ∧ wr.drew.cell? ⟨w.heap.size + 1 + 1 + 1, 0, none⟩ = some (.int .i64 ak.1.kind) ∧ wr.drew.cell? ⟨w.heap.size + 1 + 1 + 1, 1, none⟩ = some (.string ak.1.text) ∧ wr.drew.cell? ⟨w.heap.size + 1 + 1 + 1, 2, none⟩ = some (.int .i64 ak.2) from ⟨x0, x1, y0, y1, y2⟩) (fun hS => ?_)
   refine tkE [(0, []), (1, [])] ?_
   iterate 2
    refine tkS (v := ?_) hS ?_ ?_
    rotate_left
    ·(intro w hSw; (try dsimp only at hSw); (try simp only [gTA, gCZ, gCS]); go_simp; try with_reducible rfl)
    (try simp only [gTA, gCZ, gCS, Act.put, sTA, sCZ, sCS])
   refine tkF ?_
   refine wpAnyZ_one (i := 2) rfl rfl (by kernel_rfl) (fun K hK => ?_)
   (try simp only [gTA, gCZ, gCS])
   go_simp
   have hS2 := (show ((wr.drew.setCell ⟨w.heap.size + 1, 0, none⟩ (.slice D1 Wk.rows.length d1')).setCell ⟨w.heap.size + 1, 1, none⟩ (.slice A1 Wk.ss.length c1)).cell? ⟨w.heap.size, 0, none⟩ = some (.slice D1 Wk.rows.length d1') ∧ ((wr.drew.setCell ⟨w.heap.size + 1, 0, none⟩ (.slice D1 Wk.rows.length d1')).setCell ⟨w.heap.size + 1, 1, none⟩ (.slice A1 Wk.ss.length c1)).cell? ⟨w.heap.size, 1, none⟩ = some (.slice A1 Wk.ss.length c1) ∧ ((wr.drew.setCell ⟨w.heap.size + 1, 0, none⟩ (.slice D1 Wk.rows.length d1')).setCell ⟨w.heap.size + 1, 1, none⟩ (.slice A1 Wk.ss.length c1)).cell? ⟨w.heap.size + 1 + 1 + 1, 0, none⟩ = some (.int .i64 ak.1.kind) ∧ ((wr.drew.setCell ⟨w.heap.size + 1, 0, none⟩ (.slice D1 Wk.rows.length d1')).setCell ⟨w.heap.size + 1, 1, none⟩ (.slice A1 Wk.ss.length c1)).cell? ⟨w.heap.size + 1 + 1 + 1, 1, none⟩ = some (.string ak.1.text) ∧ ((wr.drew.setCell ⟨w.heap.size + 1, 0, none⟩ (.slice D1 Wk.rows.length d1')).setCell ⟨w.heap.size + 1, 1, none⟩ (.slice A1 Wk.ss.length c1)).cell? ⟨w.heap.size + 1 + 1 + 1, 2, none⟩ = some (.int .i64 ak.2) from ⟨cell_stz (p := ⟨w.heap.size + 1, 1, none⟩) e1 (cell_stz (p := ⟨w.heap.size + 1, 0, none⟩) e1 hS.1), cell_stz (p := ⟨w.heap.size + 1, 1, none⟩) e1 (cell_stz (p := ⟨w.heap.size + 1, 0, none⟩) e1 hS.2.1), cell_stz (p := ⟨w.heap.size + 1, 1, none⟩) e2 (cell_stz (p := ⟨w.heap.size + 1, 0, none⟩) e2 hS.2.2.1), cell_stz (p := ⟨w.heap.size + 1, 1, none⟩) e2 (cell_stz (p := ⟨w.heap.size + 1, 0, none⟩) e2 hS.2.2.2.1), cell_stz (p := ⟨w.heap.size + 1, 1, none⟩) e2 (cell_stz (p := ⟨w.heap.size + 1, 0, none⟩) e2 hS.2.2.2.2)⟩)
   refine hK.out _ _ hS2 ?_
   clear hK K hS
   have hS := hS2
   clear hS2
   (try simp only [gTA, gCZ, gCS, Act.put, sTA, sCZ, sCS])
   refine wpAnyZ_one (i := 3) rfl rfl (by kernel_rfl) (fun K hK => ?_)
   (try simp only [gTA, gCZ, gCS])
   go_simp
   have hS2 := (show (((((wr.drew.setCell ⟨w.heap.size + 1, 0, none⟩ (.slice D1 Wk.rows.length d1')).setCell ⟨w.heap.size + 1, 1, none⟩ (.slice A1 Wk.ss.length c1)).setCell ⟨w.heap.size + 1 + 1, 0, none⟩ (.int .i64 ak.1.kind)).setCell ⟨w.heap.size + 1 + 1, 1, none⟩ (.string ak.1.text)).setCell ⟨w.heap.size + 1 + 1, 2, none⟩ (.int .i64 ak.2)).cell? ⟨w.heap.size, 0, none⟩ = some (.slice D1 Wk.rows.length d1') ∧ (((((wr.drew.setCell ⟨w.heap.size + 1, 0, none⟩ (.slice D1 Wk.rows.length d1')).setCell ⟨w.heap.size + 1, 1, none⟩ (.slice A1 Wk.ss.length c1)).setCell ⟨w.heap.size + 1 + 1, 0, none⟩ (.int .i64 ak.1.kind)).setCell ⟨w.heap.size + 1 + 1, 1, none⟩ (.string ak.1.text)).setCell ⟨w.heap.size + 1 + 1, 2, none⟩ (.int .i64 ak.2)).cell? ⟨w.heap.size, 1, none⟩ = some (.slice A1 Wk.ss.length c1) ∧ (((((wr.drew.setCell ⟨w.heap.size + 1, 0, none⟩ (.slice D1 Wk.rows.length d1')).setCell ⟨w.heap.size + 1, 1, none⟩ (.slice A1 Wk.ss.length c1)).setCell ⟨w.heap.size + 1 + 1, 0, none⟩ (.int .i64 ak.1.kind)).setCell ⟨w.heap.size + 1 + 1, 1, none⟩ (.string ak.1.text)).setCell ⟨w.heap.size + 1 + 1, 2, none⟩ (.int .i64 ak.2)).cell? ⟨w.heap.size + 1 + 1 + 1, 0, none⟩ = some (.int .i64 ak.1.kind) ∧ (((((wr.drew.setCell ⟨w.heap.size + 1, 0, none⟩ (.slice D1 Wk.rows.length d1')).setCell ⟨w.heap.size + 1, 1, none⟩ (.slice A1 Wk.ss.length c1)).setCell ⟨w.heap.size + 1 + 1, 0, none⟩ (.int .i64 ak.1.kind)).setCell ⟨w.heap.size + 1 + 1, 1, none⟩ (.string ak.1.text)).setCell ⟨w.heap.size + 1 + 1, 2, none⟩ (.int .i64 ak.2)).cell? ⟨w.heap.size + 1 + 1 + 1, 1, none⟩ = some (.string ak.1.text) ∧ (((((wr.drew.setCell ⟨w.heap.size + 1, 0, none⟩ (.slice D1 Wk.rows.length d1')).setCell ⟨w.heap.size + 1, 1, none⟩ (.slice A1 Wk.ss.length c1)).setCell ⟨w.heap.size + 1 + 1, 0, none⟩ (.int .i64 ak.1.kind)).setCell ⟨w.heap.size + 1 + 1, 1, none⟩ (.string ak.1.text)).setCell ⟨w.heap.size + 1 + 1, 2, none⟩ (.int .i64 ak.2)).cell? ⟨w.heap.size + 1 + 1 + 1, 2, none⟩ = some (.int .i64 ak.2) from ⟨cell_stz (p := ⟨w.heap.size + 1 + 1, 2, none⟩) e3 (cell_stz (p := ⟨w.heap.size + 1 + 1, 1, none⟩) e3 (cell_stz (p := ⟨w.heap.size + 1 + 1, 0, none⟩) e3 hS.1)), cell_stz (p := ⟨w.heap.size + 1 + 1, 2, none⟩) e3 (cell_stz (p := ⟨w.heap.size + 1 + 1, 1, none⟩) e3 (cell_stz (p := ⟨w.heap.size + 1 + 1, 0, none⟩) e3 hS.2.1)), cell_stz (p := ⟨w.heap.size + 1 + 1, 2, none⟩) e4 (cell_stz (p := ⟨w.heap.size + 1 + 1, 1, none⟩) e4 (cell_stz (p := ⟨w.heap.size + 1 + 1, 0, none⟩) e4 hS.2.2.1)), cell_stz (p := ⟨w.heap.size + 1 + 1, 2, none⟩) e4 (cell_stz (p := ⟨w.heap.size + 1 + 1, 1, none⟩) e4 (cell_stz (p := ⟨w.heap.size + 1 + 1, 0, none⟩) e4 hS.2.2.2.1)), cell_stz (p := ⟨w.heap.size + 1 + 1, 2, none⟩) e4 (cell_stz (p := ⟨w.heap.size + 1 + 1, 1, none⟩) e4 (cell_stz (p := ⟨w.heap.size + 1 + 1, 0, none⟩) e4 hS.2.2.2.2))⟩)
   refine hK.out _ _ hS2 ?_
   clear hK K hS
   have hS := hS2
   clear hS2
   (try simp only [gTA, gCZ, gCS, Act.put, sTA, sCZ, sCS])
   refine wpAnyZ_last rfl rfl (by kernel_rfl) (by kernel_rfl) (fun K hK => ?_)
   (try simp only [gTA, gCZ, gCS])
   go_simp
   refine hK.out _ _ ?_
   clear hK K
   (try simp only [gTA, gCZ, gCS, Act.put, sTA, sCZ, sCS])
   clear hS
   go_wp2
   refine bodyPost_ret (v := .tuple #[.agg #[.slice D1 Wk.rows.length d1', .slice A1 Wk.ss.length c1], .agg #[.int .i64 ak.1.kind, .string ak.1.text, .int .i64 ak.2], .bool true]) (by simp [results, Tryz.results12, go_sem, r0, r1, a0, a1, a2]) rfl ?_
   rw [HWk.out, HAk.out]
   exact ⟨_, _, rfl, HRR.out.fin.1.below ((Below.refl _ _).drew), HRR.out.fin.2.drew⟩
theorem said_new1 {Q : Nat → Prop} {W : Wd} {i : Nat} {k : Int} {key val : ByteArray} {R : Wd × Ans} {st : Int} (hR : doR W i ⟨k, key, val⟩ = R) (hst : (R.1.at i).st = st) (hok : WorldOk W) (hi : i < W.ss.length) (hr : Req.ok ⟨k, key, val⟩) (r s : Value) (g t : Nat) (wc : World) (hW : WldP wc Q r s W) (hg : RowTo wc g t 3 [.int .i64 k, .string key, .string val]) (hWo : Words wc) :
  Calls Tryz.prog 12 #[.agg #[r, s], .int .i64 i, .slice (some ⟨g, 0, none⟩) 1 1] wc fun e w' => ∃ D d A c, e = .returned (.tuple #[.agg #[.slice D R.1.rows.length d, .slice A R.1.ss.length c], .agg #[.int .i64 R.2.kind, .string R.2.text, .int .i64 st], .bool true]) ∧
   WldP w' (fun b => Q b ∨ wc.heap.size ≤ b) (.slice D R.1.rows.length d) (.slice A R.1.ss.length c) R.1 ∧ Below wc.heap.size wc w' := by
 subst hR hst
 refine (said_new r s W i _ [(k, key, val)] wc hW (sl_one1 hg) hWo hok hi (fun t ht => by simp at ht; subst ht; exact hr)).mono ?_
 rintro e w' ⟨r', s', rfl, hw, hb⟩
 obtain ⟨A, c, rfl, _⟩ := hw.wld.sess.form
 obtain ⟨D, d, rfl, _⟩ := hw.wld.rows.form
 exact ⟨D, d, A, c, rfl, hw, hb⟩
section
variable {mode : Int} {m : Mach Wd} {c : Nat}
end
def wX (S T : Sess) : Wd := ⟨[], [S, T, Sess.zero, Sess.zero, Sess.zero, Sess.zero]⟩
section
variable {mode : Int} {S T S' T' : Sess} {s t : ByteArray} {ds : List Deed} {r : Req} {a : Ans}
end
section
variable (v o : ByteArray)
variable {v o}
theorem rf (mode : Int) {k : Int} {key val : ByteArray} (h : 2 ≤ k) : refB mode ⟨k, key, val⟩ = false := refB_no (by show k ≠ 0; omega) (fun h' => absurd h' (by show ¬ k = 1; omega))
variable {mode : Int} {s t : ByteArray} {ds : List Deed}
end
theorem run_E {mode s : Int} {l : List Act} (h1 : setupE mode s = 0) (h2 : l.length ≤ 300) (h3 : actsE l = 0) : runE mode s l = 0 := by
 unfold runE; rw [if_neg (by simpa using h1), if_neg (by omega), h3]
set_option maxHeartbeats 1000000 in
theorem show_ok (k : Nat) (key v : ByteArray) (w : World) (hW : Words w) (h : checkE k key v = 0) :
  Calls Tryz.prog 35 #[.agg #[.int .i64 k, .string key, .string v]] w fun e w' => e = .returned (.tuple #[.string (textOf k key v), .int .i64 0]) ∧ Below w.heap.size w w' := by
 have HW := jD hW
 obtain ⟨g1, g2, g3, g4, g5, g6⟩ := good_of h
 have hc := check_any k key v (w.alloc (.cells #[.int .i64 k, .string key, .string v] 41)) (by unfold maxLen; omega) (by unfold maxLen; omega) (HW.out.alloc _)
 rw [h] at hc
 have HC := jD hc
 have hws := wordAt_size (k := k) (by omega)
 clear hW hc h
 by_cases h6 : k < 6
 ·have ht := jD (textOf_6 (key := key) (v := v) h6)
  rw [decide_eq_true (by omega)] at g5 g6
  go_enter Tryz.func35, Tryz.ntmps35
  go_wp2_with fail
  refine HC.out.mono ?_
  rintro e w1 ⟨rfl, hb⟩
  have c := (Stm.new w k key v 41).below hb
  have c0 := c.c0
  have c1 := c.c1
  have c2 := c.c2
  have cw := ((HW.out.alloc _).below hb).cell k (by omega)
  clear c
  go_wp2
  go_ret2
  exact ⟨by rw [ht.out]; rfl, bel_trans ((Below.refl _ _).alloc (nL _) _) hb⟩
 ·by_cases h9 : k < 9
  ·have ht := jD (textOf_9 (key := key) (v := v) h6 h9)
   rw [decide_eq_false (by omega)] at g5
   rw [decide_eq_true (by omega)] at g6
   go_enter Tryz.func35, Tryz.ntmps35
   go_wp2_with fail
   refine HC.out.mono ?_
   rintro e w1 ⟨rfl, hb⟩
   have c := (Stm.new w k key v 41).below hb
   have c0 := c.c0
   have c1 := c.c1
   have c2 := c.c2
   have cw := ((HW.out.alloc _).below hb).cell k (by omega)
   clear c
   go_wp2
   go_ret2
   exact ⟨by rw [ht.out]; rfl, bel_trans ((Below.refl _ _).alloc (nL _) _) hb⟩
  ·have ht := jD (textOf_12 (key := key) (v := v) h9)
   rw [decide_eq_false (by omega)] at g5 g6
   go_enter Tryz.func35, Tryz.ntmps35
   go_wp2_with fail
   refine HC.out.mono ?_
   rintro e w1 ⟨rfl, hb⟩
   have c := (Stm.new w k key v 41).below hb
   have c0 := c.c0
   have c1 := c.c1
   have c2 := c.c2
   have cw := ((HW.out.alloc _).below hb).cell k (by omega)
   clear c
   go_wp2
   go_ret2
   exact ⟨by rw [ht.out]; rfl, bel_trans ((Below.refl _ _).alloc (nL _) _) hb⟩
set_option maxHeartbeats 400000 in
theorem setup_any (mode srv : Int) (w : World) (h1 : -9223372036854775808 ≤ mode) (h2 : mode ≤ 9223372036854775807) (h3 : -9223372036854775808 ≤ srv) (h4 : srv ≤ 9223372036854775807) :
  Calls Tryz.prog 10 #[.int .i64 mode, .int .i64 srv] w fun e w' => e = .returned (.agg #[.int .i64 (1 + pickI mode 3), .int .i64 (1 + pickI srv 4)]) ∧ Below w.heap.size w w' := by
 have HP := jD (fun wc => picked_any mode 3 wc h1 h2 (by omega) (by omega))
 have HQ := jD (fun wc => picked_any srv 4 wc h3 h4 (by omega) (by omega))
 have b1 := pickI_bd mode (m := 3) (by omega)
 have b2 := pickI_bd srv (m := 4) (by omega)
 generalize pickI mode 3 = p at *
 generalize pickI srv 4 = q at *
 clear h1 h2 h3 h4
 go_enter Tryz.func10, Tryz.ntmps10
 go_wp2_with fail
 refine (HP.out _).mono ?_
 rintro e w1 ⟨rfl, rfl⟩
 go_wp2_with fail
 refine (HQ.out _).mono ?_
 rintro e w1 ⟨rfl, rfl⟩
 go_wp2
 refine bodyPost_ret (v := .agg #[.int .i64 (1 + p), .int .i64 (1 + q)]) (by simp [results, Tryz.results10, go_sem]) rfl ⟨rfl, ?_⟩
 repeat' (first | exact Below.refl _ _ | assumption | with_reducible refine below_drewN ?_ _ | with_reducible refine Below.drew ?_ | with_reducible refine Below.setCell ?_ ?_ _ | with_reducible refine Below.alloc ?_ ?_ _ | (simp; done) | (simp; omega))
set_option maxHeartbeats 400000 in
theorem message_any (r : Req) (hr : r.ok) (w : World) (hW : Words w) :
  Calls Tryz.prog 15 #[.agg #[.int .i64 r.k, .string r.key, .string r.val]] w fun e w' => e = .returned (.string (msg 81 (msgR r))) ∧ Below w.heap.size w w' := by
 obtain ⟨k, hk⟩ : ∃ k : Nat, r.k = k := ⟨r.k.toNat, (req_nat hr).symm⟩
 have hm : msgR r = textOf k r.key r.val := by unfold msgR; rw [hk]; rfl
 have hs := msgR_size hr
 have hc : checkE k r.key r.val = 0 := by rw [← hk]; exact hr
 rw [hm] at hs ⊢
 rw [hk]
 generalize r.key = key at *
 generalize r.val = val at *
 have HW := jD hW
 have HS := jD (fun wc h => show_ok k key val wc h hc)
 generalize textOf k key val = t at *
 have HP := jD (fun wc => (pack_any 81 t wc (by omega)))
 clear hW hc hk hm hr
 go_enter Tryz.func15, Tryz.ntmps15
 go_wp2_with fail
 refine (HS.out _ (HW.out.alloc _)).mono ?_
 rintro e w1 ⟨rfl, hb1⟩
 have HB1 := jD (bel_trans ((Below.refl w.heap.size w).alloc (nL _) _) hb1)
 clear hb1
 go_wp2_with fail
 refine (HP.out _).mono ?_
 rintro e w2 ⟨rfl, hb2⟩
 have HB2 := jD (bel_trans HB1.out hb2)
 clear hb2
 go_wp2
 go_ret
 exact ⟨rfl, HB2.out⟩
end Go.Proofs.YtpbaobmegomfpabGreatDoor
namespace Go.Proofs.YtpbaobmegomfpabGreatDoor
open Go Go.RowKit
section
variable {P : Program} {ops : Array Oper} {Q : Exit → Go.Act → World → Prop} {md : Region.Mode} {S R : World → Prop} {z : Nat}
end
end Go.Proofs.YtpbaobmegomfpabGreatDoor
namespace Go.Proofs.YtpbaobmegomfpabGreatDoor
open Go.RowKit
theorem act_row : (Tryz.prog.info? 54).map (fun i => (i.zero, i.size, i.bytes)) = some (some (.agg #[.int .i64 0, .int .i64 0, .string ⟨#[]⟩]), 3, 32) := by kernel_rfl
def actV (a : Act) : List Value := [.int .i64 a.kind, .int .i64 a.c, .string a.data]
section
variable {w w' : World} {t size n : Nat} {v : Value} {g : Option Nat} {xs : List Value}
end
theorem unpack_msg (k : UInt8) (T m : ByteArray) (w : World) (hT : T.size ≤ 255) (hm : m.size ≤ 140737488351232) :
  Calls Tryz.prog 37 #[.string (msg k T ++ m)] w fun e w' => e = .returned (.tuple #[.int .u8 k.toNat, .string T, .int .i64 ((2 : Int) + (T.size : Int))]) ∧ Below w.heap.size w w' := by
 have hz : (msg k T ++ m).size = T.size + 2 + m.size := by rw [ByteArray.size_append, msg_size]
 have h1 : (msg k T ++ m)[1].toNat = T.size := by
  have := u8_size hT
  rw [msgs_one]; omega
 refine (unpack_ok (msg k T ++ m) w (by unfold maxLen; omega) (by omega) (by omega)).mono fun e w' ⟨he, hb⟩ => ⟨?_, hb⟩
 rw [he, h1, msgs_zero, msgs_text]
theorem strT_row : (Tryz.prog.info? 9).map (fun i => (i.zero, i.size, i.bytes)) = some (some (.string ⟨#[]⟩), 1, 16) := by kernel_rfl
def OwnT (w0 w : World) (v : Value) (l : List ByteArray) : Prop := ∃ g, Sl w 9 1 v g l.length (l.map .string) ∧ ∀ b, g = some b → w0.heap.size ≤ b
theorem OwnT.below {w0 w w' : World} {v : Value} {l : List ByteArray} (h : OwnT w0 w v l) (hb : Below w.heap.size w w') : OwnT w0 w' v l := by
 obtain ⟨g, h1, h2⟩ := h
 exact ⟨g, h1.below hb, h2⟩
theorem OwnT.nil (w0 w : World) : OwnT w0 w (.slice none 0 0) [] := ⟨none, Sl.nil_ _ _ _, fun b hb => by cases hb⟩
theorem OwnT.shape {w0 w : World} {v : Value} {l : List ByteArray} (h : OwnT w0 w v l) : ∃ A c, v = .slice A l.length c ∧ l.length ≤ c := by
 obtain ⟨g, h1, _⟩ := h
 exact h1.shape
theorem OwnT.lst {w0 w : World} {v : Value} {l : List ByteArray} (h : OwnT w0 w v l) (hs : ∀ t ∈ l, t.size ≤ 100000000) (hl : l.length ≤ 1000000) : TLst w w.heap.size v l := by
 refine ⟨h.shape, hl, hs, fun hn => ?_⟩
 obtain ⟨g, h1, _⟩ := h
 obtain ⟨b, off, cap, rfl, rfl, hc, hcell⟩ := h1.at hn
 refine ⟨b, off, cap, rfl, h1.lt rfl, fun i hi => ?_⟩
 rw [hcell i (by simpa using hi), List.getElem_map]
theorem run_app1 {w0 w : World} {v : Value} {l : List ByteArray} {t : ByteArray} (h : OwnT w0 w v l) (hl : l.length ≤ 1000000) (hw : w0.heap.size ≤ w.heap.size) :
  ∃ v' w', (Builtin.append_ #[25, 25] 25 #[v, .slice (some ⟨w.heap.size, 0, none⟩) 1 1]).run Tryz.prog (w.alloc (.cells #[.string t] 9)) = .ok v' w' ∧ OwnT w0 w' v' (l ++ [t]) ∧ ∀ wb, Below w0.heap.size wb w → Below w0.heap.size wb w' := by
 obtain ⟨i0, hi, hz0, hz1, hz2⟩ := info_parts strT_row
 have nb := (Below.refl w.heap.size w).alloc (nL _) (.cells #[.string t] 9)
 have hX := RowTo.whole w #[.string t] 9
 obtain ⟨g, h1, h2⟩ := h.below nb
 obtain ⟨b, off, cap, w', hrun, hs, hgr, hb⟩ := h1.append (P := Tryz.prog) 25 25 i0 _ 16 Tryz.underlying25 hi hz0 hz1 hz2 rfl (by omega) ⟨w.heap.size, 0, none⟩ 1 [.string t] rfl (fun j u hu => by
   have hj := (List.getElem?_eq_some_iff.1 hu).1
   have hj0 : j = 0 := by simpa using hj
   subst hj0
   injection hu with hu
   subst hu
   exact hX.cell (j := 0) (by simp)) (fun u hu => by rw [List.mem_singleton.1 hu]; rfl) (by unfold maxLen; omega) (by omega)
 refine ⟨_, w', hrun, ⟨some b, by rw [List.length_append, List.map_append]; exact hs, fun x hx => ?_⟩, fun wb hwb => ?_⟩
 ·injection hx with hx
  subst hx
  exact hb.elim (fun e => h2 _ e) (fun e => Nat.le_trans (Nat.le_trans hw nb.size) e.1)
 ·exact (hwb.trans (nb.mono hw)).grown hgr (Nat.le_trans hw nb.size) h2
theorem toL_ne {s x : ByteArray} (h : ¬ s = x) : (s.toList == x.toList) = false := by
 rw [← beq_toListBytes]
 cases hb : (s == x) with
 | false => rfl
 | true => exact absurd ((Go.MapKept.bytes_beq s x).1 hb) h
theorem toL_emp {s : ByteArray} (h : ¬ s = ⟨#[]⟩) : s.toList.isEmpty = false := by
 have h1 := toL_ne h
 have e : (⟨#[]⟩ : ByteArray).toList = [] := by first | rfl | simp | (unfold ByteArray.toList ByteArray.toList.loop; simp)
 rw [e] at h1
 cases hs : s.toList with
 | nil => rw [hs] at h1; cases h1
 | cons a l => rfl
def strSz : Value → Nat
 | .string b => b.size
 | _ => 0
theorem catM_size {ts : List ByteArray} (h : ∀ t ∈ ts, t.size ≤ 200) : (catM ts).size ≤ 202 * ts.length := by
 induction ts with
 | nil => exact nL _
 | cons t l ih =>
  show (msg 82 t ++ catM l).size ≤ _
  rw [ByteArray.size_append, msg_size]
  have h1 := h t List.mem_cons_self
  have h2 := ih (fun x hx => h x (List.mem_cons_of_mem _ hx))
  simp only [List.length_cons]
  omega
set_option maxHeartbeats 1000000 in
theorem answers_any (ts : List ByteArray) (w : World) (hts : ∀ t ∈ ts, t.size ≤ 200) (hl : ts.length ≤ 1000) :
  Calls Tryz.prog 16 #[.string (catM ts)] w fun e w' => ∃ v, e = .returned (.tuple #[v, .bool true]) ∧ OwnT w w' v ts ∧ Below w.heap.size w w' := by
 have HTS := jD hts
 have HS0 := jD (show OwnT w w (.slice none 0 0) (ts.take 0) ∧ Below w.heap.size w w from ⟨OwnT.nil w w, Below.refl _ _⟩)
 clear hts
 go_enter Tryz.func16, Tryz.ntmps16
 go_wp2
 go_loopw [0, 4] (fun s o wr => ∃ k : Nat, k ≤ ts.length ∧ s = .string (catM (ts.drop k)) ∧ Hid (OwnT w wr o (ts.take k) ∧ Below w.heap.size w wr)) (fun s _ _ => strSz s)
 case atStart => exact ⟨0, by omega, rfl, HS0.out⟩
 case round =>
  obtain ⟨k, hk, rfl, HZ⟩ := hrel
  clear HS0
  by_cases hlt : k < ts.length
  ·obtain ⟨t, ht⟩ : ∃ t, Hid (ts[k] = t) := ⟨_, jD rfl⟩
   obtain ⟨m, hm⟩ : ∃ m, Hid (catM (ts.drop (k + 1)) = m) := ⟨_, jD rfl⟩
   have he : catM (ts.drop k) = msg 82 t ++ m := by
    rw [List.drop_eq_getElem_cons hlt, ← ht.out, ← hm.out]; rfl
   have htz : t.size ≤ 200 := by rw [← ht.out]; exact HTS.out _ (List.getElem_mem hlt)
   have hmz : m.size ≤ 202000 := by
    rw [← hm.out]
    refine Nat.le_trans (catM_size fun x hx => HTS.out x (List.mem_of_mem_drop hx)) ?_
    rw [List.length_drop]; omega
   have hsz : (msg 82 t ++ m).size = t.size + 2 + m.size := by rw [ByteArray.size_append, msg_size]
   have HU := jD (fun wc => unpack_msg 82 t m wc (by omega) (by omega))
   have HRE := jD (msg_rest 82 t m)
   have HTK := jD (show ts.take (k + 1) = ts.take k ++ [t] by rw [List.take_succ_eq_append_getElem hlt, ht.out])
   obtain ⟨j, hj⟩ : ∃ j : Nat, j = 2 + t.size := ⟨_, rfl⟩
   have hjI : (2 : Int) + (t.size : Int) = (j : Int) := by omega
   rw [← hj] at HRE
   rw [hjI] at HU
   rw [he]
   have hnee : ¬ (msg 82 t ++ m) = ⟨#[]⟩ := fun h => by have := congrArg ByteArray.size h; rw [hsz] at this; have h0 : (⟨#[]⟩ : ByteArray).size = 0 := rfl; omega
   have hne : (msg 82 t ++ m).toList.isEmpty = false := toL_emp hnee
   clear hnee
   have HZS := jD hsz
   have hjs : j ≤ (msg 82 t ++ m).size := by omega
   have HJ := jD hj
   generalize msg 82 t ++ m = s at *
   have hj0 : ((j : Int) == 0) = false := beq_eq_false_iff_ne.2 (by omega)
   clear he hsz hjI hj
   go_wp2_with fail
   refine (HU.out _).mono ?_
   rintro e1 w1 ⟨rfl, hb1⟩
   have HZ1 := jD (And.intro (HZ.out.1.below hb1) (bel_add' HZ.out.2 hb1 HZ.out.2.size))
   clear hb1 HU
   have hlk : (ts.take k).length ≤ 1000000 := by rw [List.length_take]; omega
   obtain ⟨v', w', hrun, ho, hbb⟩ := run_app1 (t := t) HZ1.out.1 hlk HZ1.out.2.size
   obtain ⟨A, c, hv, _⟩ := HZ1.out.1.shape
   have hlk2 : (ts.take k).length = k := by rw [List.length_take]; omega
   rw [hlk2] at hv
   rw [hv] at hrun ⊢
   have HN := jD (And.intro ho (hbb w HZ1.out.2))
   clear ho hbb hv HZ HZ1 hlk hlk2
   go_wp2_with (at_builtin; refine Lib.wpList_append_run _ rfl _ _ _ _ rfl _ _ rfl rfl _ _ hrun ?_)
   go_roundw
   case rel => exact ⟨k + 1, by omega, by rw [hm.out]; simp [HRE.out], by rw [HTK.out]; exact HN.out⟩
   case measure => simp [strSz, HRE.out]; have := HZS.out; have := HJ.out; omega
  ·obtain rfl : k = ts.length := by omega
   have HE := jD (show OwnT w wr _ ts ∧ Below w.heap.size w wr by have h := HZ.out; rw [List.take_length] at h; exact h)
   have he : catM (ts.drop ts.length) = ⟨#[]⟩ := by rw [List.drop_length]; rfl
   rw [he]
   clear HZ
   go_wp2
   go_ret2
   exact ⟨_, rfl, HE.out⟩
def encA (x : Act) : List Value := [.int .i64 x.kind, .int .i64 x.c, .string x.data]
section
variable {w : World} {b off cap : Nat} {d : List (Act)}
theorem Rw.cA (h : Rw w 54 3 b off cap (d.map encA)) {i : Nat} (hi : i < d.length) : w.cell? ⟨b, off + i * 3, none⟩ = some (.int .i64 d[i].kind) ∧ w.cell? ⟨b, off + i * 3 + 1, none⟩ = some (.int .i64 d[i].c) ∧ w.cell? ⟨b, off + i * 3 + 2, none⟩ = some (.string d[i].data) := by
 have hi' : i < (d.map encA).length := by simpa using hi
 have h0 := h.cell i hi' 0 (by omega)
 have h1 := h.cell i hi' 1 (by omega)
 have h2 := h.cell i hi' 2 (by omega)
 rw [List.getElem_map] at h0
 rw [List.getElem_map] at h1
 rw [List.getElem_map] at h2
 exact ⟨by simpa [encA] using h0, by simpa [encA] using h1, by simpa [encA] using h2⟩
end
theorem actV_len (al : List Act) : ∀ e ∈ al.map actV, e.length = 3 := fun e he => by obtain ⟨x, _, rfl⟩ := List.mem_map.1 he; rfl
theorem Sl.alst {w : World} {out : Value} {g : Option Nat} {al : List Act} (h : Sl w 54 3 out g al.length (al.map actV).flatten) (hby : al.length * 32 ≤ 140737488351232) (hs : ∀ a ∈ al, a.data.size ≤ 140737488351232) : ALst w w.heap.size out al := by
 obtain ⟨A, c, rfl, hc⟩ := h.shape
 refine ⟨⟨A, c, rfl, hc⟩, hby, hs, fun hn => ?_⟩
 obtain ⟨b, off, cap, h1, h2, h3, h4⟩ := h.at hn
 refine ⟨b, off, cap, h2, h.lt h1, fun i hi => ?_⟩
 have hf : ∀ j, j < 3 → w.cell? ⟨b, off + (i * 3 + j), none⟩ = (actV al[i])[j]? := fun j hj => by
  have hf := flat_get (d := al.map actV) (size := 3) (actV_len al) (i := i) (by simpa using hi) hj
  rw [List.getElem_map] at hf
  have hl : i * 3 + j < (al.map actV).flatten.length := by rw [h.len]; exact at_in hi hj
  rw [h4 _ hl, ← List.getElem?_eq_getElem hl]
  exact hf
 have h0 := hf 0 (by omega)
 have h1 := hf 1 (by omega)
 have h2 := hf 2 (by omega)
 rw [← Nat.add_assoc] at h0 h1 h2
 exact ⟨h0, h1, h2⟩
theorem Rw.alst {w : World} {b off cap : Nat} {al : List Act} (h : Rw w 54 3 b off cap (al.map encA)) (hby : al.length ≤ 1000) (hs : ∀ a ∈ al, a.data.size ≤ 1000) : ALst w w.heap.size (.slice (some ⟨b, off, none⟩) al.length cap) al :=
 ⟨⟨_, _, rfl, by simpa using h.room⟩, by omega, fun a ha => by have := hs a ha; omega, fun _ => ⟨b, off, cap, rfl, h.row.lt, fun i hi => h.cA hi⟩⟩
def Two (w : World) (B : Nat) (a t : Value) (al : List Act) (tl : List ByteArray) (r s : Value) (W : Wd) : Prop :=
 ∃ g g', Sl w 54 3 a g al.length (al.map actV).flatten ∧ Sl w 9 1 t g' tl.length (tl.map Value.string) ∧ (∀ b, g = some b → B ≤ b) ∧ (∀ b, g' = some b → B ≤ b) ∧ (∀ b, g = some b → g' ≠ some b) ∧ WldP w (fun b => g ≠ some b ∧ g' ≠ some b) r s W
section
variable {w w' : World} {B : Nat} {a t r s : Value} {al : List Act} {tl : List ByteArray} {W : Wd}
theorem Two.below (h : Two w B a t al tl r s W) (hb : Below w.heap.size w w') : Two w' B a t al tl r s W := by
 obtain ⟨g, g', h1, h2, h3, h4, h5, h6⟩ := h
 exact ⟨g, g', h1.below hb, h2.below hb, h3, h4, h5, h6.below hb⟩
theorem Two.opened (h : Two w B a t al tl r s W) : ∃ Q, WldP w Q r s W ∧ ∀ w' r' s' W', Below w.heap.size w w' → WldP w' (fun b => Q b ∨ w.heap.size ≤ b) r' s' W' → Two w' B a t al tl r' s' W' := by
 obtain ⟨g, g', h1, h2, h3, h4, h5, h6⟩ := h
 refine ⟨_, h6, fun w' r' s' W' hb hw => ⟨g, g', h1.below hb, h2.below hb, h3, h4, h5, hw.mono fun b hb' => ?_⟩⟩
 rcases hb' with hb' | hb'
 ·exact hb'
 ·exact ⟨fun e => by have := h1.lt e; omega, fun e => by have := h2.lt e; omega⟩
theorem Two.off {R : Nat} (h : Two w B a t al tl r s W) (h2 : NoTwo w R) (hs : NoSes w R) (hR : R < B) (hz : w'.heap.size = w.heap.size) (hk : ∀ b, b ≠ R → w'.heap[b]? = w.heap[b]?) : Two w' B a t al tl r s W := by
 obtain ⟨g, g', h1, h2', h3, h4, h5, h6⟩ := h
 exact ⟨g, g', h1.keep fun b hb => hk b (by have := h3 b hb; omega), h2'.keep fun b hb => hk b (by have := h4 b hb; omega), h3, h4, h5, h6.off h2 hs hz hk⟩
theorem Two.set2 {R t0 : Nat} {a0 b0 : Option Addr} {n m c d : Nat} (h : Two w B a t al tl r s W) (hX : RowTo w R t0 2 [.slice a0 n c, .slice b0 m d]) (hR : R < B) (x y : Value) : Two ((w.setCell ⟨R, 0, none⟩ x).setCell ⟨R, 1, none⟩ y) B a t al tl r s W :=
 h.off (noTwo_world hX) (noSes_world hX) hR (by simp [World.setCell]) fun b hb => by rw [Below.heap_setCell _ _ _ _ hb, Below.heap_setCell _ _ _ _ hb]
theorem Two.shape (h : Two w B a t al tl r s W) : (∃ A c, a = .slice A al.length c) ∧ (∃ A c, t = .slice A tl.length c) ∧ (∃ A c, s = .slice A W.ss.length c) ∧ ∃ A c, r = .slice A W.rows.length c := by
 obtain ⟨g, g', h1, h2, h3, h4, h5, h6⟩ := h
 obtain ⟨A1, c1, e1, _⟩ := h1.shape
 obtain ⟨A2, c2, e2, _⟩ := h2.shape
 obtain ⟨A3, c3, e3, _⟩ := h6.wld.sess.form
 obtain ⟨A4, c4, e4, _⟩ := h6.wld.rows.form
 exact ⟨⟨A1, c1, e1⟩, ⟨A2, c2, e2⟩, ⟨A3, c3, e3⟩, A4, c4, e4⟩
theorem Two.appT (h : Two w B a t al tl r s W) (x : ByteArray) (hl : tl.length ≤ 1000) (hB : B ≤ w.heap.size) :
  ∃ t' w', (Builtin.append_ #[25, 25] 25 #[t, .slice (some ⟨w.heap.size, 0, none⟩) 1 1]).run Tryz.prog (w.alloc (.cells #[.string x] 9)) = .ok t' w' ∧ Two w' B a t' al (tl ++ [x]) r s W ∧ Below B w w' ∧ ∀ b t0 n xs, RowTo w b t0 n xs → t0 ≠ 9 → w'.heap[b]? = w.heap[b]? := by
 obtain ⟨i0, hi, hz0, hz1, hz2⟩ := info_parts strT_row
 have nb := (Below.refl w.heap.size w).alloc (nL _) (.cells #[.string x] 9)
 have hX := RowTo.whole w #[.string x] 9
 obtain ⟨g, g', h1, h2, h3, h4, h5, h6⟩ := h.below nb
 obtain ⟨b, off, cap, w', hrun, hs, hgr, hb⟩ := h2.append (P := Tryz.prog) 25 25 i0 _ 16 Tryz.underlying25 hi hz0 hz1 hz2 rfl (by omega) ⟨w.heap.size, 0, none⟩ 1 [.string x] rfl (fun j u hu => by
   have hj := (List.getElem?_eq_some_iff.1 hu).1
   have hj0 : j = 0 := by simpa using hj
   subst hj0
   injection hu with hu
   subst hu
   exact hX.cell (j := 0) (by simp)) (fun u hu => by rw [List.mem_singleton.1 hu]; rfl) (by unfold maxLen; omega) (by omega)
 have hns := nb.size
 refine ⟨_, w', hrun, ⟨g, some b, h1.keep fun x0 hx0 => hgr.block x0 (h1.lt hx0) (fun e => h5 x0 hx0 e.symm), by rw [List.length_append, List.map_append]; exact hs, h3, fun x0 hx0 => ?_, fun x0 hx0 e => ?_, ?_⟩, ((Below.refl B w).alloc hB _).grown hgr (by omega) h4, fun y t0 n xs hy hne => ?_⟩
 ·injection hx0 with hx0
  subst hx0
  exact hb.elim (fun e => h4 _ e) (fun e => by omega)
 ·injection e with e
  subst e
  rcases hb with hb | hb
  ·exact h5 _ hx0 hb
  ·have := h1.lt hx0; omega
 ·refine (h6.small.keep hgr.size fun x0 hx0 _ => hgr.block x0 hx0.2 (fun e => hx0.1.2 e.symm)).mono fun x0 hx0 => ⟨hx0.1.1, fun e => ?_⟩
  injection e with e
  subst e
  rcases hb with hb | hb
  ·exact hx0.1.2 hb
  ·have := hx0.2; omega
 ·have hy1 := hy.below nb hy.lt
  refine (hgr.block y hy1.lt fun e => ?_).trans (nb.block y hy.lt)
  rcases h2.form with ⟨h0, _⟩ | ⟨b', off', cap', tot, h0, _, _, hr', _⟩
  ·rw [h0] at e; cases e
  ·rw [h0] at e
   injection e with e
   subst e
   obtain ⟨c1, e1, _⟩ := hy1
   obtain ⟨c2, e2, _⟩ := hr'
   rw [e1] at e2
   injection e2 with e2
   injection e2 with _ e2
   exact hne e2
theorem Two.appA (h : Two w B a t al tl r s W) (x : Act) (hl : al.length ≤ 1000) (hB : B ≤ w.heap.size) {b0 : Nat} (hX : RowTo w b0 54 3 (actV x)) :
  ∃ a' w', (Builtin.append_ #[24, 24] 24 #[a, .slice (some ⟨b0, 0, none⟩) 1 1]).run Tryz.prog w = .ok a' w' ∧ Two w' B a' t (al ++ [x]) tl r s W ∧ Below B w w' := by
 obtain ⟨i0, hi, hz0, hz1, hz2⟩ := info_parts act_row
 obtain ⟨g, g', h1, h2, h3, h4, h5, h6⟩ := h
 obtain ⟨b, off, cap, w', hrun, hs, hgr, hb⟩ := h1.append (P := Tryz.prog) 24 24 i0 _ 32 Tryz.underlying24 hi hz0 hz1 hz2 rfl (by omega) ⟨b0, 0, none⟩ 1 (actV x) rfl (fun j u hu => by
   have hj := (List.getElem?_eq_some_iff.1 hu).1
   rw [List.getElem?_eq_getElem hj] at hu
   rw [Addr.add_lit, Nat.zero_add, hX.cell hj]
   exact hu) (fun u hu => by unfold actV at hu; simp at hu; rcases hu with rfl | rfl | rfl <;> rfl) (by unfold maxLen; omega) (by omega)
 refine ⟨_, w', hrun, ⟨some b, g', by rw [List.length_append, List.map_append, List.flatten_append]; simpa using hs, h2.keep fun x0 hx0 => hgr.block x0 (h2.lt hx0) (fun e => h5 x0 e.symm hx0), fun x0 hx0 => ?_, h4, fun x0 hx0 e => ?_, ?_⟩, (Below.refl B w).grown hgr hB h3⟩
 ·injection hx0 with hx0
  subst hx0
  exact hb.elim (fun e => h3 _ e) (fun e => by omega)
 ·injection hx0 with hx0
  subst hx0
  rcases hb with hb | hb
  ·exact h5 _ hb e
  ·have := h2.lt e; omega
 ·refine (h6.small.keep hgr.size fun x0 hx0 _ => hgr.block x0 hx0.2 (fun e => hx0.1.1 e.symm)).mono fun x0 hx0 => ⟨fun e => ?_, hx0.1.2⟩
  injection e with e
  subst e
  rcases hb with hb | hb
  ·exact hx0.1.1 hb
  ·have := hx0.2; omega
theorem Two.lists (h : Two w B a t al tl r s W) (ha : al.length * 32 ≤ 140737488351232) (hd : ∀ x ∈ al, x.data.size ≤ 140737488351232) (hs : ∀ x ∈ tl, x.size ≤ 100000000) (hl : tl.length ≤ 1000000) : ALst w w.heap.size a al ∧ TLst w w.heap.size t tl ∧ Lst w w.heap.size r W.rows := by
 obtain ⟨g, g', h1, h2, h3, h4, h5, h6⟩ := h
 refine ⟨Sl.alst h1 ha hd, ⟨h2.shape, hl, hs, fun hn => ?_⟩, h6.wld.rows⟩
 obtain ⟨b, off, cap, rfl, rfl, hc, hcell⟩ := h2.at hn
 refine ⟨b, off, cap, rfl, h2.lt rfl, fun i hi => ?_⟩
 rw [hcell i (by simpa using hi), List.getElem_map]
end
theorem two_start (w : World) (B : Nat) : Two ((w.alloc (.cells (madeCells #[.int .i64 0, .slice none 0 0, .slice none 0 0, .slice none 0 0, .slice none 0 0] (1 * 5)) 115)).alloc (.cells #[.slice none 0 0, .slice (some ⟨w.heap.size, 0, none⟩) 1 1] 39)) B (.slice none 0 0) (.slice none 0 0) [] [] (.slice none 0 0) (.slice (some ⟨w.heap.size, 0, none⟩) 1 1) ⟨[], [Sess.zero]⟩ := by
 have xS := RowTo.whole w (madeCells #[.int .i64 0, .slice none 0 0, .slice none 0 0, .slice none 0 0, .slice none 0 0] (1 * 5)) 115
 rw [madeCells_size] at xS
 have hs := made_sess (n := 1) (xS.alloc (.cells #[.slice none 0 0, .slice (some ⟨w.heap.size, 0, none⟩) 1 1] 39)) (by omega)
 exact ⟨none, none, Sl.nil_ _ _ _, Sl.nil_ _ _ _, (fun b h => by cases h), (fun b h => by cases h), (fun b h => by cases h), (Wld.p (W := ⟨[], [Sess.zero]⟩) ⟨Lst.none_ _ _, hs⟩).mono fun b _ => ⟨(fun h => by cases h), (fun h => by cases h)⟩⟩
structure AlAt (w wr : World) (U X B : Nat) (md : Int) (n : Nat) (a t r s : Value) (al : List Act) (tl : List ByteArray) (W : Wd) : Prop where
 u : RowTo wr U 23 2 [.int .i64 md, .int .i64 n]
 x : RowTo wr X 39 2 [r, s]
 two : Two wr B a t al tl r s W
 bel : Below w.heap.size w wr
 uB : U < B
 xB : X < B
 hB : B ≤ wr.heap.size
 wX : w.heap.size ≤ X
 wB : w.heap.size ≤ B
 ne : U ≠ X
theorem tell_one (a : Ans) (st : Int) (w : World) (hL : Leads w) (h : AnsOk a ∧ 0 ≤ st ∧ st ≤ 2) :
  Calls Tryz.prog 13 #[.agg #[.int .i64 a.kind, .string a.text, .int .i64 st]] w fun e w' => e = .returned (.tuple #[.string (tellT a.kind.toNat st.toNat a.text), .int .i64 0]) ∧ Below w.heap.size w w' := by
 obtain ⟨hk, hk'⟩ : (a.kind.toNat : Int) = a.kind ∧ (st.toNat : Int) = st := ⟨by have := h.1.lo; omega, by omega⟩
 have h1 := tell_ok a.kind.toNat st.toNat a.text w hL (by rw [hk, hk']; have := h.1.lo; have := h.1.hi; omega) (by rw [hk]; rw [h.1.ne]; have := h.1.len; simp; omega)
 rw [hk, hk'] at h1
 exact h1
theorem st_of {W : Wd} (h : WorldOk W) {i : Nat} (hi : i < W.ss.length) : 0 ≤ (W.at i).st ∧ (W.at i).st ≤ 2 := by
 have := h.sess i hi
 rw [at_lt hi]
 exact ⟨this.lo, this.hi⟩
theorem alone_ok {W : Wd} {l : List Req} (h : WorldOk W) (h1 : W.ss.length = 1) (hr : ∀ r ∈ l, r.ok) : WorldOk (aloneW W l) ∧ (aloneW W l).ss.length = 1 := by
 have := said_ok (i := 0) (l := l) h (by omega) hr
 exact ⟨this.1, this.2.trans h1⟩
theorem aloneT_size : ∀ {l : List Req} {W : Wd}, WorldOk W → W.ss.length = 1 → (∀ r ∈ l, r.ok) → ∀ t ∈ aloneT W l, t.size ≤ 200
 | [], W, _, _, _ => fun t ht => by cases ht
 | r :: l, W, h, h1, hr => fun t ht => by
  have hd := doR_ok (i := 0) h (by omega) (hr r List.mem_cons_self)
  have hst := st_of hd.1 (i := 0) (by rw [hd.2]; omega)
  unfold aloneT at ht
  rcases List.mem_cons.1 ht with rfl | ht
  ·have := ansM_size (a := (doR W 0 r).2) (st := ((doR W 0 r).1.at 0).st) (doM_ans h (by omega) _ _ _) hst
   unfold ansM at this
   rw [msg_size] at this
   omega
  ·exact aloneT_size hd.1 (hd.2.trans h1) (fun q hq => hr q (List.mem_cons_of_mem _ hq)) t ht
theorem aloneZ_ok : WorldOk ⟨[], [Sess.zero]⟩ := zeros_ok (n := 1) (by omega)
def actOf (c : Nat) (r : Req) : Act := ⟨1, (c : Int), catQ [msgR r]⟩
def alA (c : Nat) (l : List Raw) (k : Nat) : List Act := (l.take k).map fun r => actOf c (reqR r)
def alT (l : List Raw) (k : Nat) : List ByteArray := aloneT ⟨[], [Sess.zero]⟩ ((l.take k).map reqR)
def alW (l : List Raw) (k : Nat) : Wd := aloneW ⟨[], [Sess.zero]⟩ ((l.take k).map reqR)
section
variable {l : List Raw} {k c : Nat}
theorem al_snoc (h : k < l.length) : (l.take (k + 1)).map reqR = (l.take k).map reqR ++ [reqR l[k]] := by rw [List.take_succ_eq_append_getElem h, List.map_append]; rfl
theorem alA_step (h : k < l.length) : alA c l (k + 1) = alA c l k ++ [actOf c (reqR l[k])] := by unfold alA; rw [List.take_succ_eq_append_getElem h, List.map_append]; rfl
theorem alT_step (h : k < l.length) : alT l (k + 1) = alT l k ++ [tellT (doR (alW l k) 0 (reqR l[k])).2.kind.toNat (((doR (alW l k) 0 (reqR l[k])).1.at 0).st).toNat (doR (alW l k) 0 (reqR l[k])).2.text] := by
 unfold alT alW; rw [al_snoc h, aloneT_snoc]; rfl
theorem alW_step (h : k < l.length) : alW l (k + 1) = (doR (alW l k) 0 (reqR l[k])).1 := by unfold alW; rw [al_snoc h, aloneW_snoc]; rfl
theorem al_reqs (l : List Raw) (k : Nat) : ∀ r ∈ (l.take k).map reqR, r.ok := fun r hr => by obtain ⟨x, _, rfl⟩ := List.mem_map.1 hr; exact reqR_ok x
theorem alW_ok (l : List Raw) (k : Nat) : WorldOk (alW l k) ∧ (alW l k).ss.length = 1 := alone_ok aloneZ_ok rfl (al_reqs l k)
theorem alT_size (l : List Raw) (k : Nat) : ∀ t ∈ alT l k, t.size ≤ 200 := aloneT_size aloneZ_ok rfl (al_reqs l k)
theorem alA_len (h : k ≤ l.length) : (alA c l k).length = k := by unfold alA; rw [List.length_map, List.length_take]; omega
theorem alT_len (h : k ≤ l.length) : (alT l k).length = k := by unfold alT; rw [aloneT_len, List.length_map, List.length_take]; omega
theorem alA_map : alA c l k = ((l.take k).map reqR).map fun r => ⟨1, (c : Int), catQ [msgR r]⟩ := by unfold alA; rw [List.map_map]; rfl
theorem alA_E (hc : c < 6) : actsE (alA c l k) = 0 := by rw [alA_map]; exact alone_E hc (al_reqs l k)
theorem alA_size : ∀ a ∈ alA c l k, a.data.size ≤ 1000 := fun a ha => by
 unfold alA at ha
 obtain ⟨x, _, rfl⟩ := List.mem_map.1 ha
 exact catQ1_size (reqR_ok x)
theorem al_pool {mode : Int} (hm : mode ≠ 3) (hc : c < 6) {n : Nat} (hn : 1 ≤ n) (hn' : n ≤ 8) (hk : k ≤ l.length) :
  (ranM mode n (alA c l k)).sent.getD c ⟨#[]⟩ = catM (alT l k) ∧ (ranM mode n (alA c l k)).deeds.length = k ∧ (ranM mode n (alA c l k)).e.w.rows = (alW l k).rows := by
 have h := alone_pool (mode := mode) hm hc hn hn' (al_reqs l k) (by rw [← alA_map]; exact alA_E hc)
 rw [← alA_map] at h
 refine ⟨h.1, h.2.1.trans ?_, h.2.2⟩
 rw [List.length_map, List.length_take]; omega
end
end Go.Proofs.YtpbaobmegomfpabGreatDoor
