/-
  Texts of the proof, one behind the other: HouseM, RawM, BackLaws.
-/
import Derived.Test.YtpbaobmegomfpacGreatDoorM22
import Derived.Test.YtpbaobmegomfpacGreatDoorM7
set_option linter.unusedVariables false
set_option linter.unusedSimpArgs false
set_option maxRecDepth 100000
open List renaming getElem_toArray → gTA, getElem_cons_zero → gCZ, getElem_cons_succ → gCS, setIfInBounds_toArray → sTA, set_cons_zero → sCZ, set_cons_succ → sCS
open Nat renaming le_refl → nL
namespace Go.Proofs.YtpbaobmegomfpacGreatDoor
open Go.RowKit
structure D where
 w : Wd
 sent : List ByteArray
 deeds : List Deed
def D.tell (d : D) (c : Nat) (a : Ans) (st : Int) : D := { d with sent := d.sent.set c (d.sent.getD c ⟨#[]⟩ ++ ansM a st) }
def D.one (mode : Int) (c : Nat) (d : D) (r : Req) : D :=
 if refB mode r then d.tell c ⟨4, refuse mode r⟩ (d.w.at c).st
 else D.tell ⟨(doM d.w c r.k r.key r.val).1, d.sent, d.deeds ++ [⟨c, r, (doM d.w c r.k r.key r.val).2, ((doM d.w c r.k r.key r.val).1.at c).st⟩]⟩ c (doM d.w c r.k r.key r.val).2 ((doM d.w c r.k r.key r.val).1.at c).st
def Mach.d (m : Mach Wd) : D := ⟨m.e, m.sent, m.deeds⟩
section
variable {m : Mach Wd} {mode : Int} {c : Nat}
theorem proc_d {r : Req} {l : List Req} (hw : (m.get c).wait = r :: l) : (m.proc houseO mode c).d = m.d.one mode c r := by
 unfold Mach.proc D.one
 rw [hw]
 simp only
 by_cases hf : refB mode r = true
 ·rw [if_pos hf, if_pos hf]; rfl
 ·rw [if_neg hf, if_neg hf]
  split <;> rfl
theorem proc_busy {r : Req} {l : List Req} (hw : (m.get c).wait = r :: l) : (m.proc houseO mode c).busy = m.busy ∨ (m.proc houseO mode c).busy = m.busy.set ((m.get c).srv.getD 0) false := by
 unfold Mach.proc
 rw [hw]
 simp only
 by_cases hf : refB mode r = true
 ·rw [if_pos hf]; exact .inl rfl
 ·rw [if_neg hf]
  split
  ·exact .inr rfl
  ·exact .inl rfl
theorem proc_cl (hc : c < m.cl.length) {r : Req} {l : List Req} (hw : (m.get c).wait = r :: l) (d : Nat) : (m.proc houseO mode c).get d = (if c = d then { m.get c with wait := l, srv := if refB mode r = false ∧ mode ≠ 1 ∧ ((m.proc houseO mode c).e.at c).st = 0 then none else (m.get c).srv } else m.get d) := by
 have hg : ∀ (q : Mach Wd) x, q.cl = m.cl.set c x → q.get d = if c = d then x else m.get d := fun q x hq => by unfold Mach.get; rw [hq]; exact get_cl hc
 unfold Mach.proc
 rw [hw]
 simp only
 by_cases hf : refB mode r = true
 ·rw [if_pos hf, hg _ { m.get c with wait := l } rfl, hf]
  by_cases e : c = d
  ·rw [if_pos e, if_pos e]; simp
  ·rw [if_neg e, if_neg e]
 ·rw [if_neg hf]
  have hf' : refB mode r = false := by simpa using hf
  generalize hx : houseO.exec m.e c ((m.get c).srv.getD 0) r = x
  have hst : x.2.2 = (x.1.at c).st := by rw [← hx]; rfl
  by_cases hm : mode ≠ 1 ∧ x.2.2 = 0
  ·rw [if_pos hm]
   have e1 : (Mach.release houseO (Mach.tell { m.set c { m.get c with wait := l } with e := x.1, deeds := m.deeds ++ [⟨c, r, x.2.1, x.2.2⟩] } c x.2.1 x.2.2) c ((m.get c).srv.getD 0)).cl = m.cl.set c { m.get c with wait := l, srv := none } := by
    show (m.cl.set c _).set c _ = _
    rw [List.set_set]
    show m.cl.set c { (m.set c { m.get c with wait := l }).get c with srv := none } = _
    rw [get_set hc, if_pos rfl]
   rw [hg _ _ e1]
   by_cases e : c = d
   ·rw [if_pos e, if_pos e, if_pos ⟨hf', hm.1, by show (x.1.at c).st = 0; rw [← hst]; exact hm.2⟩]
   ·rw [if_neg e, if_neg e]
  ·rw [if_neg hm, hg _ { m.get c with wait := l } rfl]
   by_cases e : c = d
   ·rw [if_pos e, if_pos e, if_neg (fun hh => hm ⟨hh.2.1, by rw [hst]; exact hh.2.2⟩)]
   ·rw [if_neg e, if_neg e]
theorem proc_line' : (m.proc houseO mode c).line = m.line := by
 unfold Mach.proc
 split
 ·rfl
 ·simp only
  split
  ·rfl
  ·split <;> rfl
def canServe (m : Mach Wd) (c : Nat) : Prop := (m.get c).srv.isSome = true ∨ false ∈ m.busy
structure Lone (m : Mach Wd) (c : Nat) : Prop where
 line : m.line = []
 oth : ∀ d, d ≠ c → (m.get d).wait = []
 can : canServe m c
def Needs (mode : Int) (m : Mach Wd) (c : Nat) : Prop := (m.get c).srv.isSome = true → (m.e.at c).st ≠ 0 ∨ ∃ r l, (m.get c).wait = r :: l ∧ refB mode r = false
structure Served (mode : Int) (m : Mach Wd) (c : Nat) (r : Mach Wd) : Prop where
 d : r.d = (m.get c).wait.foldl (D.one mode c) m.d
 wait : ∀ x, (r.get x).wait = []
 line : r.line = []
 oth : ∀ x, x ≠ c → r.get x = m.get x
 bytes : (r.get c).bytes = (m.get c).bytes
 can : canServe r c
 len : r.busy.length = m.busy.length
 back : mode ≠ 1 → Needs mode m c → (r.get c).srv.isSome = true → (r.e.at c).st ≠ 0
theorem lone_nodup {l : List Nat} (h : l.Nodup) (hm : ∀ d, d ∈ l ↔ d = c) : l = [c] := by
 cases l with
 | nil => have := (hm c).2 rfl; cases this
 | cons a t =>
  have ha := (hm a).1 List.mem_cons_self
  subst ha
  cases t with
  | nil => rfl
  | cons b t =>
   have hb := (hm b).1 (by simp)
   subst hb
   rw [List.nodup_cons] at h
   exact absurd List.mem_cons_self h.1
theorem lone_all (hc : c < 6) (h : MOk mode m) (hl : Lone m c) : Served mode m c (m.all houseO mode) := by
 refine all_ind (fun m => Lone m c) (fun m r => Served mode m c r) (fun m h hl ht => ?_) (fun m h hl ht => ?_) _ m (nL _) h hl
 ·have hc' : c < m.cl.length := by rw [h.n6]; exact hc
  cases hf : m.firstR mode with
  | some x =>
   obtain ⟨hx6, hxr⟩ := first_some hf
   have hxc : x = c := Classical.byContradiction fun hne => by
    obtain ⟨r, l, hw, _⟩ := ready_wait hxr
    rw [hl.oth x hne] at hw; cases hw
   subst hxc
   obtain ⟨r, l, hw, hsv⟩ := ready_wait hxr
   have e : (m.step houseO mode).2 = m.proc houseO mode x := by unfold Mach.step; rw [hf]
   rw [e]
   have hg := fun d => proc_cl (mode := mode) hc' hw d
   have hgx : (m.proc houseO mode x).get x = { m.get x with wait := l, srv := if refB mode r = false ∧ mode ≠ 1 ∧ ((m.proc houseO mode x).e.at x).st = 0 then none else (m.get x).srv } := by rw [hg, if_pos rfl]
   have hcan : canServe (m.proc houseO mode x) x := by
    by_cases hfr : refB mode r = false ∧ mode ≠ 1 ∧ ((m.proc houseO mode x).e.at x).st = 0
    ·right
     rw [hfr.1, Bool.or_false] at hsv
     obtain ⟨s, hs⟩ := Option.isSome_iff_exists.1 hsv
     have hn : ((m.proc houseO mode x).get x).srv = none := by rw [hgx]; simp only; rw [if_pos hfr]
     have hb := h.srv x s hs
     have hP := (h.proc (o := houseO) hx6 hxr).1
     rcases proc_busy (mode := mode) hw with e1 | e1
     ·exfalso
      have hb2 : (m.proc houseO mode x).busy[s]? = some true := by rw [e1]; exact hb
      obtain ⟨y, hy⟩ := hP.own s hb2
      by_cases e2 : x = y
      ·subst e2; rw [hn] at hy; cases hy
      ·rw [hg, if_neg e2] at hy
       exact e2 (h.inj x y s hs hy)
     ·rw [e1, hs]
      show false ∈ m.busy.set s false
      have hl : s < m.busy.length := (List.getElem?_eq_some_iff.1 hb).1
      exact List.mem_iff_getElem?.2 ⟨s, List.getElem?_set_self hl⟩
    ·rcases hl.can with hcan | hcan
     ·left; rw [hgx]; simp only; rw [if_neg hfr]; exact hcan
     ·right
      rcases proc_busy (mode := mode) hw with e1 | e1
      ·rw [e1]; exact hcan
      ·rw [e1]
       obtain ⟨j, hj⟩ := List.mem_iff_getElem?.1 hcan
       by_cases ej : (m.get x).srv.getD 0 = j
       ·rw [ej]; exact List.mem_iff_getElem?.2 ⟨j, List.getElem?_set_self (List.getElem?_eq_some_iff.1 hj).1⟩
       ·exact List.mem_iff_getElem?.2 ⟨j, by rw [List.getElem?_set_ne ej]; exact hj⟩
   refine ⟨⟨by rw [proc_line']; exact hl.line, fun d hd => by rw [hg, if_neg (fun e => hd e.symm)]; exact hl.oth d hd, hcan⟩, fun r' hr' => ?_⟩
   refine ⟨?_, hr'.wait, hr'.line, fun y hy => ?_, ?_, hr'.can, ?_, fun hm hpre hsome => hr'.back hm (fun hs2 => ?_) hsome⟩
   ·rw [hr'.d, hgx, proc_d hw, hw]; rfl
   ·rw [hr'.oth y hy, hg, if_neg (fun e => hy e.symm)]
   ·rw [hr'.bytes, hgx]
   ·rw [hr'.len]
    rcases proc_busy (mode := mode) hw with e1 | e1 <;> rw [e1]
    simp
   ·rw [hgx] at hs2 ⊢
    simp only at hs2 ⊢
    left
    by_cases hrf : refB mode r = false
    ·intro h0
     rw [if_pos ⟨hrf, hm, h0⟩] at hs2; cases hs2
    ·have hrf' : refB mode r = true := by simpa using hrf
     rw [if_neg (fun hh => hrf hh.1)] at hs2
     rcases hpre hs2 with h0 | ⟨r2, l2, hw2, hr2⟩
     ·have ee : (m.proc houseO mode x).e = m.e := by
       unfold Mach.proc
       rw [hw]
       simp only
       rw [if_pos hrf']; rfl
      rw [ee]; exact h0
     ·rw [hw] at hw2
      injection hw2 with e1 e2
      rw [e1, hr2] at hrf'; cases hrf'
  | none =>
   have e : (m.step houseO mode) = m.enq.assign houseO := by unfold Mach.step; rw [hf]
   rw [e] at ht ⊢
   have hq := h.enq hf
   have hmem : ∀ d, d ∈ m.enq.line ↔ d < 6 ∧ (m.get d).wait ≠ [] := fun d => by
    show d ∈ (List.range 6).foldl (enqL m) m.line ↔ _
    rw [enq_mem, hl.line, List.mem_range]
    simp
   have hwc : (m.get c).wait ≠ [] := fun hw => by
    have : m.enq.line = [] := List.eq_nil_iff_forall_not_mem.2 fun d hd => by
     obtain ⟨_, h2⟩ := (hmem d).1 hd
     by_cases e : d = c
     ·subst e; exact h2 hw
     ·exact h2 (hl.oth d e)
    unfold Mach.assign at ht
    rw [this] at ht; cases ht
   have hline : m.enq.line = [c] := lone_nodup (enq_nodup h.nodup) fun d => by
    rw [hmem]
    exact ⟨fun ⟨_, h2⟩ => Classical.byContradiction fun hne => h2 (hl.oth d hne), fun e => by subst e; exact ⟨hc, hwc⟩⟩
   have hnr := first_none hf hc
   cases hw : (m.get c).wait with
   | nil => exact absurd hw hwc
   | cons r l =>
   unfold readyB at hnr
   rw [hw] at hnr
   simp only [Bool.or_eq_false_iff] at hnr
   have hb : m.busy.idxOf false < m.busy.length := by
    unfold Mach.assign at ht
    rw [hline] at ht
    simp only at ht
    by_cases hb : m.enq.busy.idxOf false < m.enq.busy.length
    ·exact hb
    ·rw [if_neg hb] at ht; cases ht
   have ha : (m.enq.assign houseO).2 = { m with line := [], busy := m.busy.set (m.busy.idxOf false) true, cl := m.cl.set c { m.get c with srv := some (m.busy.idxOf false) } } := by
    unfold Mach.assign
    rw [hline]
    simp only
    rw [if_pos (by exact hb)]
    rfl
   rw [ha]
   have hg : ∀ d, Mach.get { m with line := [], busy := m.busy.set (m.busy.idxOf false) true, cl := m.cl.set c { m.get c with srv := some (m.busy.idxOf false) } } d = if c = d then { m.get c with srv := some (m.busy.idxOf false) } else m.get d := fun d => get_cl hc'
   refine ⟨⟨rfl, fun d hd => by rw [hg, if_neg (fun e => hd e.symm)]; exact hl.oth d hd, .inl (by rw [hg, if_pos rfl]; rfl)⟩, fun r' hr' => ?_⟩
   refine ⟨?_, hr'.wait, hr'.line, fun y hy => ?_, ?_, hr'.can, ?_, fun hm hpre hsome => hr'.back hm (fun hs2 => ?_) hsome⟩
   ·rw [hr'.d, hg, if_pos rfl]; rfl
   ·rw [hr'.oth y hy, hg, if_neg (fun e => hy e.symm)]
   ·rw [hr'.bytes, hg, if_pos rfl]
   ·rw [hr'.len]; simp
   ·right
    exact ⟨r, l, by rw [hg, if_pos rfl]; exact hw, hnr.2⟩
 ·cases hf : m.firstR mode with
  | some x => unfold Mach.step at ht; rw [hf] at ht; cases ht
  | none =>
   have e : (m.step houseO mode) = m.enq.assign houseO := by unfold Mach.step; rw [hf]
   rw [e] at ht ⊢
   rw [assign_no ht]
   have hc' : c < m.cl.length := by rw [h.n6]; exact hc
   have hmem : ∀ d, d ∈ m.enq.line ↔ d < 6 ∧ (m.get d).wait ≠ [] := fun d => by
    show d ∈ (List.range 6).foldl (enqL m) m.line ↔ _
    rw [enq_mem, hl.line, List.mem_range]
    simp
   have hwc : (m.get c).wait = [] := Classical.byContradiction fun hwc => by
    have hline : m.enq.line = [c] := lone_nodup (enq_nodup h.nodup) fun d => by
     rw [hmem]
     exact ⟨fun ⟨_, h2⟩ => Classical.byContradiction fun hne => h2 (hl.oth d hne), fun e => by subst e; exact ⟨hc, hwc⟩⟩
    have hnr := first_none hf hc
    have hsv : (m.get c).srv.isSome = false := by
     cases hw : (m.get c).wait with
     | nil => exact absurd hw hwc
     | cons r l =>
      unfold readyB at hnr
      rw [hw] at hnr
      simp only [Bool.or_eq_false_iff] at hnr
      exact hnr.1
    have hb : m.busy.idxOf false < m.busy.length := List.idxOf_lt_length_iff.2 (hl.can.resolve_left (by rw [hsv]; simp))
    unfold Mach.assign at ht
    rw [hline] at ht
    simp only at ht
    rw [if_pos (by exact hb)] at ht; cases ht
   have hnil : m.enq.line = [] := List.eq_nil_iff_forall_not_mem.2 fun d hd => by
    obtain ⟨_, h2⟩ := (hmem d).1 hd
    by_cases e : d = c
    ·subst e; exact h2 hwc
    ·exact h2 (hl.oth d e)
   refine ⟨by rw [hwc]; rfl, fun y => ?_, hnil, fun _ _ => rfl, rfl, hl.can, rfl, fun hm hpre hsome => ?_⟩
   ·by_cases e : y = c
    ·subst e; exact hwc
    ·exact hl.oth y e
   ·rcases hpre hsome with h0 | ⟨r, l, hw, _⟩
    ·exact h0
    ·rw [hwc] at hw; cases hw
end
def keyL : Nat → List UInt8
 | 0 => [97]
 | 1 => [98]
 | 2 => [114, 111, 119]
 | _ => [110, 97, 109, 101]
def keyAt (a : Nat) : ByteArray := ⟨(keyL a).toArray⟩
def numL (n : Nat) : List UInt8 := if n < 10 then [UInt8.ofNat (48 + n)] else [UInt8.ofNat (48 + n / 10), UInt8.ofNat (48 + n % 10)]
def numAt (n : Nat) : ByteArray := ⟨(numL n).toArray⟩
def valAt (b : Nat) : ByteArray := ⟨#[118]⟩ ++ numAt b
def prepAt (c b : Nat) : ByteArray :=
 match c with
 | 0 => ⟨#[103, 101, 116, 32, 97]⟩
 | 1 => ⟨#[114, 101, 97, 100, 32, 114, 111, 119]⟩
 | 2 => ⟨#[112, 117, 116, 32, 114, 111, 119, 32]⟩ ++ valAt b
 | _ => ⟨#[112, 117, 116, 32, 98, 32, 120]⟩
def rawK (k c : Nat) : Nat :=
 if k < 3 then 1 else if k < 5 then 2 else if k = 5 then 3 else if k = 6 then (if c = 0 then 4 else 5) else if k < 10 then 6 else if k < 13 then 7 else if k < 15 then 8 else if k < 18 then 9 else if k < 22 then 10 else 11
def rawKey (k a : Nat) : ByteArray := if k < 7 then ⟨#[]⟩ else keyAt a
def rawVal (k b c : Nat) : ByteArray := if k < 15 then ⟨#[]⟩ else if k < 22 then valAt b else prepAt c b
theorem keyAt_name : ∀ a, a < 4 → bndB 97 122 8 (keyAt a) = true := by decide
theorem valAt_value : ∀ b, b < 12 → bndB 33 126 20 (valAt b) = true := by decide
theorem prepAt_prep : ∀ c, c < 4 → ∀ b, b < 12 → prepB (prepAt c b) = true := by decide +kernel
theorem raw_check {k a b c3 c4 : Nat} (hk : k < 24) (ha : a < 4) (hb : b < 12) (hc3 : c3 < 3) (hc4 : c4 < 4) : checkE (rawK k c3) (rawKey k a) (rawVal k b c4) = 0 := by
 have h1 := keyAt_name a ha
 have h2 := valAt_value b hb
 have h3 := prepAt_prep c4 hc4 b hb
 have hcase : k < 3 ∨ (¬ k < 3 ∧ k < 5) ∨ k = 5 ∨ k = 6 ∨ (6 < k ∧ k < 10) ∨ (¬ k < 10 ∧ k < 13) ∨ (¬ k < 13 ∧ k < 15) ∨ (¬ k < 15 ∧ k < 18) ∨ (¬ k < 18 ∧ k < 22) ∨ ¬ k < 22 := by omega
 have small : ∀ n : Nat, 1 ≤ n → n < 6 → checkE n ⟨#[]⟩ ⟨#[]⟩ = 0 := by
  intro n h1 h6
  refine checkE_ok (by omega) ?_ ?_
  ·rw [keyB_no (by omega)]; exact empty_of rfl
  ·unfold valueB; rw [if_neg (by omega), plainV_no (by omega)]; exact empty_of rfl
 rcases hcase with h | ⟨h, h'⟩ | h | h | ⟨h, h'⟩ | ⟨h, h'⟩ | ⟨h, h'⟩ | ⟨h, h'⟩ | ⟨h, h'⟩ | h
 ·have e : rawK k c3 = 1 := by unfold rawK; rw [if_pos h]
  rw [e]; unfold rawKey rawVal; rw [if_pos (by omega), if_pos (by omega)]; exact small 1 (by omega) (by omega)
 ·have e : rawK k c3 = 2 := by unfold rawK; rw [if_neg h, if_pos h']
  rw [e]; unfold rawKey rawVal; rw [if_pos (by omega), if_pos (by omega)]; exact small 2 (by omega) (by omega)
 ·subst h
  exact small 3 (by omega) (by omega)
 ·subst h
  have e : rawK 6 c3 = 4 ∨ rawK 6 c3 = 5 := by unfold rawK; simp; omega
  rcases e with e | e
  ·rw [e]; exact small 4 (by omega) (by omega)
  ·rw [e]; exact small 5 (by omega) (by omega)
 ·have e : rawK k c3 = 6 := by unfold rawK; rw [if_neg (by omega), if_neg (by omega), if_neg (by omega), if_neg (by omega), if_pos h']
  rw [e]; unfold rawKey rawVal; rw [if_neg (by omega), if_pos (by omega)]
  exact checkE_ok (by omega) (by rw [keyB_yes (by omega)]; exact h1) (by unfold valueB; rw [if_neg (by omega), plainV_no (by omega)]; exact empty_of rfl)
 ·have e : rawK k c3 = 7 := by unfold rawK; rw [if_neg (by omega), if_neg (by omega), if_neg (by omega), if_neg (by omega), if_neg h, if_pos h']
  rw [e]; unfold rawKey rawVal; rw [if_neg (by omega), if_pos (by omega)]
  exact checkE_ok (by omega) (by rw [keyB_yes (by omega)]; exact h1) (by unfold valueB; rw [if_neg (by omega), plainV_no (by omega)]; exact empty_of rfl)
 ·have e : rawK k c3 = 8 := by unfold rawK; rw [if_neg (by omega), if_neg (by omega), if_neg (by omega), if_neg (by omega), if_neg (by omega), if_neg h, if_pos h']
  rw [e]; unfold rawKey rawVal; rw [if_neg (by omega), if_pos (by omega)]
  exact checkE_ok (by omega) (by rw [keyB_yes (by omega)]; exact h1) (by unfold valueB; rw [if_neg (by omega), plainV_no (by omega)]; exact empty_of rfl)
 ·have e : rawK k c3 = 9 := by unfold rawK; rw [if_neg (by omega), if_neg (by omega), if_neg (by omega), if_neg (by omega), if_neg (by omega), if_neg (by omega), if_neg h, if_pos h']
  rw [e]; unfold rawKey rawVal; rw [if_neg (by omega), if_neg (by omega), if_pos (by omega)]
  exact checkE_ok (by omega) (by rw [keyB_yes (by omega)]; exact h1) (by unfold valueB; rw [if_neg (by omega), plainV_yes (by omega)]; exact h2)
 ·have e : rawK k c3 = 10 := by unfold rawK; rw [if_neg (by omega), if_neg (by omega), if_neg (by omega), if_neg (by omega), if_neg (by omega), if_neg (by omega), if_neg (by omega), if_neg h, if_pos h']
  rw [e]; unfold rawKey rawVal; rw [if_neg (by omega), if_neg (by omega), if_pos (by omega)]
  exact checkE_ok (by omega) (by rw [keyB_yes (by omega)]; exact h1) (by unfold valueB; rw [if_neg (by omega), plainV_yes (by omega)]; exact h2)
 ·have e : rawK k c3 = 11 := by unfold rawK; rw [if_neg (by omega), if_neg (by omega), if_neg (by omega), if_neg (by omega), if_neg (by omega), if_neg (by omega), if_neg (by omega), if_neg (by omega), if_neg h]
  rw [e]; unfold rawKey rawVal; rw [if_neg (by omega), if_neg (by omega), if_neg h]
  exact checkE_ok (by omega) (by rw [keyB_yes (by omega)]; exact h1) (by unfold valueB; rw [if_pos (by omega)]; exact h3)
structure Raw where
 kd : Int
 a : Int
 b : Int
 c : Int
def reqR (r : Raw) : Req := ⟨rawK (pickI r.kd 24).toNat (pickI r.c 3).toNat, rawKey (pickI r.kd 24).toNat (pickI r.a 4).toNat, rawVal (pickI r.kd 24).toNat (pickI r.b 12).toNat (pickI r.c 4).toNat⟩
def Req.ok (r : Req) : Prop := checkE r.k r.key r.val = 0
theorem pick_lt (n : Int) {m : Nat} (hm : 0 < m) : (pickI n m).toNat < m := by have := pickI_bd n (m := m) (by omega); omega
theorem reqR_ok (r : Raw) : (reqR r).ok := raw_check (pick_lt r.kd (m := 24) (by omega)) (pick_lt r.a (m := 4) (by omega)) (pick_lt r.b (m := 12) (by omega)) (pick_lt r.c (m := 3) (by omega)) (pick_lt r.c (m := 4) (by omega))
theorem small_ok {n : Int} (h1 : 1 ≤ n) (h6 : n < 6) : checkE n ⟨#[]⟩ ⟨#[]⟩ = 0 := by
 refine checkE_ok (by omega) ?_ ?_
 ·rw [keyB_no (by omega)]; exact empty_of rfl
 ·unfold valueB; rw [if_neg (by omega), plainV_no (by omega)]; exact empty_of rfl
def doR (W : Wd) (i : Nat) (r : Req) : Wd × Ans := doM W i r.k r.key r.val
theorem doR_ok {W : Wd} (h : WorldOk W) {i : Nat} (hi : i < W.ss.length) {r : Req} (hr : r.ok) : WorldOk (doR W i r).1 ∧ (doR W i r).1.ss.length = W.ss.length := doM_ok h hi hr
section
variable {W : Wd} {i : Nat}
end
section
variable {W : Wd} {i : Nat}
theorem sav_ite {c : Prop} [Decidable c] {P : Wd × Ans → Prop} {a b : Wd × Ans} (ha : c → P a) (hb : ¬ c → P b) : P (if c then a else b) := by
 by_cases h : c
 ·rw [if_pos h]; exact ha h
 ·rw [if_neg h]; exact hb h
end
end Go.Proofs.YtpbaobmegomfpacGreatDoor
