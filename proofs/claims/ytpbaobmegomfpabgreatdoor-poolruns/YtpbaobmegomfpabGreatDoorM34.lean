/-
  Texts of the proof, one behind the other: PStep, HouseS, HouseT, HouseG, PAll, PRel2.
-/
import Derived.Test.YtpbaobmegomfpabGreatDoorM33
import Derived.Test.YtpbaobmegomfpabGreatDoorM23
import Derived.Test.YtpbaobmegomfpabGreatDoorM18
import Derived.Sort.WalkB12
import Derived.Test.YtpbaobmegomfpabGreatDoorM29
import Derived.Test.YtpbaobmegomfpabGreatDoorM1
set_option linter.unusedVariables false
set_option linter.unusedSimpArgs false
set_option maxRecDepth 100000
open List renaming getElem_toArray → gTA, getElem_cons_zero → gCZ, getElem_cons_succ → gCS, setIfInBounds_toArray → sTA, set_cons_zero → sCZ, set_cons_succ → sCS
open Go.Lib renaming hid → jD
open Nat renaming le_refl → nL
namespace Go.Proofs.YtpbaobmegomfpabGreatDoor
open Go.RowKit
section
variable {base P : Nat} {f : Nat → Value} {G : Nat → Option Nat} {mode : Int} {m : Mach PE} {N : Nat}
theorem first_is {c : Nat} (hc : c < 6) (h0 : ∀ d, d < c → readyB mode (m.get d) = false) (h1 : readyB mode (m.get c) = true) : m.firstR mode = some c := by
 cases hf : m.firstR mode with
 | none => have := first_none hf hc; rw [h1] at this; cases this
 | some d =>
  obtain ⟨hd, hr⟩ := first_some hf
  rcases Nat.lt_trichotomy d c with h | h | h
  ·rw [h0 d h] at hr; cases hr
  ·rw [h]
  ·unfold Mach.firstR at hf
   rw [List.find?_eq_some_iff_append] at hf
   obtain ⟨_, xs, ys, e, ha⟩ := hf
   have hm : c ∈ xs := by
    have hcr : c ∈ List.range 6 := List.mem_range.2 hc
    have hs : List.Pairwise (· < ·) (List.range 6) := List.pairwise_lt_range
    rw [e] at hcr hs
    rcases List.mem_append.1 hcr with hh | hh
    ·exact hh
    ·rcases List.mem_cons.1 hh with hh | hh
     ·omega
     ·have := (List.pairwise_cons.1 (List.pairwise_append.1 hs).2.1).1 c hh
      omega
   have := ha c hm
   rw [h1] at this
   cases this
theorem first_no (h0 : ∀ d, d < 6 → readyB mode (m.get d) = false) : m.firstR mode = none := by
 cases hf : m.firstR mode with
 | none => rfl
 | some d => obtain ⟨hd, hr⟩ := first_some hf; rw [h0 d hd] at hr; cases hr
set_option maxHeartbeats 1000000 in
theorem step_any (w : World) (h : PMem 0 w base P f G mode m) (hT : Tabs w base) (hI : Inv mode m N) (hN : N ≤ 300000) (hbl : m.busy.length ≤ 8) :
  Calls Tryz.prog 79 #[ptr P 0] w (PPostB w base P mode (m.step poolO mode)) := by
 have hbP := (h.lo 0 P h.p0).1
 have H0 := jD (And.intro h (And.intro hT hI))
 have hPw := h.row.lt
 clear h hT hI
 unfold ptr
 go_enter Tryz.func79, Tryz.ntmps79
 go_wp2
 go_loopw [4] (fun i wr => ∃ k : Nat, k ≤ 6 ∧ i = .int .i64 k ∧ Hid ((∀ d, d < k → readyB mode (m.get d) = false) ∧ Below w.heap.size w wr)) (fun i _ => 6 - (intOf i).toNat)
 case atStart => exact ⟨0, by omega, rfl, (fun d hd => absurd hd (by omega)), Below.refl _ _⟩
 case round =>
  obtain ⟨k, hk, rfl, HZ⟩ := hrel
  have HM := jD (H0.out.1.below HZ.out.2)
  have HB := jD (HZ.out.2.mono (Nat.le_trans hbP (Nat.le_of_lt hPw)))
  have HT := jD (H0.out.2.1.below HB.out)
  by_cases hlt : k < 6
  ·have HR := jD (ready_any wr HM.out hlt)
   unfold ptr at HR
   cases hq : readyB mode (m.get k) with
   | true =>
    rw [hq] at HR
    have HE := jD (show m.step poolO mode = (true, m.proc poolO mode k) by unfold Mach.step; rw [first_is hlt HZ.out.1 hq])
    have HQ := jD hq
    clear hq
    go_wp2_with fail
    refine HR.out.mono ?_
    rintro e w1 ⟨rfl, hb1⟩
    have HP := jD (process_any w1 (HM.out.below hb1) (HT.out.below (hb1.mono (Nat.le_trans hbP (Nat.le_of_lt HM.out.row.lt)))) H0.out.2.2 hN hlt HQ.out)
    have HB1 := jD (HB.out.trans (hb1.mono (Nat.le_trans hbP (Nat.le_of_lt HM.out.row.lt))))
    unfold ptr at HP
    clear hb1 HR
    go_wp2_with fail
    refine HP.out.mono ?_
    rintro e w2 ⟨f2, G2, rfl, hM2, hB2⟩
    have HF := jD (And.intro hM2 (HB1.out.trans hB2))
    clear hM2 hB2 HP
    go_wp2
    go_ret
    rw [HE.out]
    exact ⟨f2, G2, rfl, HF.out.1, HF.out.2⟩
   | false =>
    rw [hq] at HR
    have HF := jD (show ∀ d, d < k + 1 → readyB mode (m.get d) = false from fun d hd => by
     rcases Nat.lt_or_ge d k with h' | h'
     ·exact HZ.out.1 d h'
     ·obtain rfl : d = k := by omega
      exact hq)
    have HZ2 := jD HZ.out.2
    clear hq HZ
    go_wp2_with fail
    refine HR.out.mono ?_
    rintro e w1 ⟨rfl, hb1⟩
    have HB1 := jD (bel_add' HZ2.out hb1 HZ2.out.size)
    clear hb1 HR
    go_wp2
    go_roundw
    case rel => exact ⟨k + 1, by omega, by go_num, HF.out, HB1.out⟩
    case measure => simp [intOf]; omega
  ·obtain rfl : k = 6 := by omega
   have hfn := first_no HZ.out.1
   have HE := jD (show m.step poolO mode = m.enq.assign poolO by unfold Mach.step; rw [hfn])
   have HQ := jD (enqueue_any wr HM.out H0.out.2.2.line)
   have HIE := jD (H0.out.2.2.enq hfn)
   unfold ptr at HQ
   clear hfn HZ
   go_wp2_with fail
   refine HQ.out.mono ?_
   rintro e w1 ⟨f1, G1, rfl, hM1, hB1⟩
   have HA := jD (assign_any w1 hM1 (HT.out.below hB1) HIE.out hbl)
   have HB1 := jD (HB.out.trans hB1)
   unfold ptr at HA
   clear hM1 hB1 HQ
   go_wp2_with fail
   refine HA.out.mono ?_
   rintro e w2 ⟨f2, G2, rfl, hM2, hB2⟩
   have HF := jD (And.intro hM2 (HB1.out.trans hB2))
   clear hM2 hB2 HA
   go_wp2
   go_ret
   rw [HE.out]
   exact ⟨f2, G2, rfl, HF.out.1, HF.out.2⟩
end
def pulls : Nat → ByteArray → List Req × ByteArray × Bool
 | 0, b => ([], b, false)
 | n + 1, b => match pull b with
  | none => ([], b, false)
  | some (k, t, j) => if k = 88 then ([], b, true) else (reqOf k t :: (pulls n (b.extract j b.size)).1, (pulls n (b.extract j b.size)).2.1, (pulls n (b.extract j b.size)).2.2)
def pullsA (b : ByteArray) : List Req × ByteArray × Bool := pulls (b.size + 1) b
section
variable {E : Type} {o : Ops E} {mode : Int} {m : Mach E} {c : Nat}
end
structure So where
 d : D
 b : Nat → ByteArray
def D.gone (d : D) (c : Nat) : D := ⟨d.w.put c Sess.zero, d.sent, d.deeds⟩
def So.act (mode : Int) (s : So) (a : Act) : So :=
 if a.kind = 1 then
  (if (pullsA (s.b a.c.toNat ++ a.data)).2.2 then ⟨((pullsA (s.b a.c.toNat ++ a.data)).1.foldl (D.one mode a.c.toNat) s.d).gone a.c.toNat, upd s.b a.c.toNat ⟨#[]⟩⟩
  else ⟨(pullsA (s.b a.c.toNat ++ a.data)).1.foldl (D.one mode a.c.toNat) s.d, upd s.b a.c.toNat (pullsA (s.b a.c.toNat ++ a.data)).2.1⟩)
 else ⟨s.d.gone a.c.toNat, upd s.b a.c.toNat ⟨#[]⟩⟩
def So.run (mode : Int) (s : So) (l : List Act) : So := l.foldl (So.act mode) s
def Mach.so (m : Mach Wd) : So := ⟨m.d, m.b⟩
section
variable {mode : Int} {m : Mach Wd} {c : Nat}
end
section
variable {mode : Int} {m : Mach Wd} {c : Nat}
end
def No88 (b : ByteArray) : Prop := ∀ x ∈ b.data.toList, x ≠ 88
theorem no88_app {a b : ByteArray} : No88 (a ++ b) ↔ No88 a ∧ No88 b := by
 unfold No88
 simp only [ByteArray.data_append, Array.toList_append, List.mem_append]
 exact ⟨fun h => ⟨fun x hx => h x (.inl hx), fun x hx => h x (.inr hx)⟩, fun h x hx => hx.elim (h.1 x) (h.2 x)⟩
theorem ext_list (b : ByteArray) (i j : Nat) : (b.extract i j).data.toList = (b.data.toList.take j).drop i := by
 simp [List.drop_take]
theorem no88_ext {b : ByteArray} (h : No88 b) (i j : Nat) : No88 (b.extract i j) := fun x hx => by
 rw [ext_list] at hx
 exact h x (List.mem_of_mem_take (List.mem_of_mem_drop hx))
theorem pull_some {b : ByteArray} {k : UInt8} {t : ByteArray} {j : Nat} (h : pull b = some (k, t, j)) : ∃ h2 : 2 ≤ b.size, k = b[0] ∧ j = 2 + b[1].toNat ∧ t = b.extract 2 j ∧ j ≤ b.size := by
 unfold pull at h
 split at h
 ·rename_i h2
  split at h
  ·rename_i h3
   injection h with h
   injection h with e1 e2
   injection e2 with e2 e3
   exact ⟨h2, e1.symm, e3.symm, by rw [← e3]; exact e2.symm, by omega⟩
  ·cases h
 ·cases h
theorem ext_size {b : ByteArray} {j : Nat} : (b.extract j b.size).size = b.size - j := by simp
theorem pull_88 {b : ByteArray} (hb : No88 b) {k : UInt8} {t : ByteArray} {j : Nat} (h : pull b = some (k, t, j)) : k ≠ 88 := by
 obtain ⟨h2, e, _⟩ := pull_some h
 rw [e]
 exact hb _ (by rw [get_toList b 0 (by omega)]; exact List.getElem_mem _)
section
variable {mode : Int}
def SoNo (s : So) : Prop := ∀ c, No88 (s.b c)
theorem start_no (n : Nat) : SoNo (Mach.start houseStart n).so := fun c => by
 show No88 ((Mach.start houseStart n).get c).bytes
 have : ((Mach.start houseStart n).get c).bytes = ⟨#[]⟩ := by
  unfold Mach.get Mach.start; simp only; rw [List.getD_eq_getElem?_getD, List.getElem?_replicate]; split <;> rfl
 rw [this]; intro x hx; cases hx
end
theorem actsE_app : ∀ {l k : List Act}, actsE (l ++ k) = 0 ↔ actsE l = 0 ∧ actsE k = 0
 | [], k => by simp [actsE]
 | a :: l, k => by
  constructor
  ·intro h
   obtain ⟨h1, h2⟩ := actsE_cons h
   obtain ⟨h3, h4⟩ := actsE_app.1 h2
   exact ⟨by unfold actsE; rw [h1]; simpa using h3, h4⟩
  ·intro ⟨h, hk⟩
   obtain ⟨h1, h2⟩ := actsE_cons h
   show actsE (a :: (l ++ k)) = 0
   unfold actsE; rw [h1]; simpa using actsE_app.2 ⟨h2, hk⟩
theorem run_app {E : Type} {o : Ops E} {mode : Int} {m : Mach E} {l k : List Act} : m.run o mode (l ++ k) = (m.run o mode l).run o mode k := List.foldl_append ..
def Rep : Wd → List Deed → Wd → Prop
 | W, [], V => V = W
 | W, x :: l, V => (doR W x.c x.r).2 = x.a ∧ ((doR W x.c x.r).1.at x.c).st = x.st ∧ x.c < 6 ∧ x.r.ok ∧ Rep (doR W x.c x.r).1 l V
theorem Rep.snoc : ∀ {l : List Deed} {W V : Wd} {c : Nat} {r : Req}, Rep W l V → c < 6 → r.ok → Rep W (l ++ [⟨c, r, (doR V c r).2, ((doR V c r).1.at c).st⟩]) (doR V c r).1
 | [], W, V, c, r, h, hc, hr => by cases h; exact ⟨rfl, rfl, hc, hr, rfl⟩
 | x :: l, W, V, c, r, h, hc, hr => ⟨h.1, h.2.1, h.2.2.1, h.2.2.2.1, Rep.snoc h.2.2.2.2 hc hr⟩
section
variable {mode : Int} {m : Mach Wd} {c : Nat}
def PrivJ (d : D) (b : Nat → ByteArray) (q : Nat → List Req) : Prop := (∀ c, No88 (b c)) ∧ Rep houseStart d.deeds d.w
theorem priv_one (d : D) (b : Nat → ByteArray) (q : Nat → List Req) (c : Nat) (r : Req) (l : List Req) (hc : c < 6) (_ : q c = r :: l) (hr : r.fine) (h : PrivJ d b q) : PrivJ (d.one mode c r) b (upd q c l) := by
 refine ⟨h.1, ?_⟩
 rw [one_deeds, one_w]
 split
 ·exact h.2
 ·rename_i hn; exact h.2.snoc hc (fine_ok hr hn)
theorem priv_feed (h : MOk mode m) (hc : c < 6) (hj : m.has PrivJ) (n : Nat) : (m.feed houseO mode n c).has PrivJ := by
 induction n generalizing m with
 | zero => exact hj
 | succ n ih =>
  have hc' : c < m.cl.length := by rw [h.n6]; exact hc
  unfold Mach.feed
  cases hp : pull (m.get c).bytes with
  | none => exact hj
  | some q =>
   obtain ⟨k, t, j⟩ := q
   simp only
   rw [if_neg (pull_88 (hj.1 c) hp)]
   refine ih (h.turn hc (fine_app (fun q hq => h.fine c q hq) (reqOf_fine k t)) rfl fun hl => ⟨by simp, ?_⟩) ?_
   ·obtain ⟨_, _, h3, h4⟩ := h.line c hl
    exact ready_app h3 h4
   ·unfold Mach.has
    rw [set_b hc', set_q hc']
    refine ⟨fun x => ?_, hj.2⟩
    unfold upd
    split
    ·exact no88_ext (hj.1 c) _ _
    ·exact hj.1 x
theorem priv_act (h : MOk mode m) (hj : m.has PrivJ) {a : Act} (ha : actE a = 0) (hk : a.kind = 1) (h8 : No88 a.data) : (m.act houseO mode a).has PrivJ := by
 obtain ⟨hc, _⟩ := act_lt ha
 have hc' : a.c.toNat < m.cl.length := by rw [h.n6]; exact hc
 unfold Mach.act
 rw [if_pos hk]
 refine all_has priv_one (h.deliver hc _) ?_
 unfold Mach.deliver
 refine priv_feed (h.bytes hc _) hc ?_ _
 unfold Mach.has
 rw [set_b hc', set_q hc']
 refine ⟨fun x => ?_, hj.2⟩
 unfold upd
 split
 ·exact no88_app.2 ⟨hj.1 _, h8⟩
 ·exact hj.1 x
theorem priv_run : ∀ {l : List Act} {m : Mach Wd}, MOk mode m → m.has PrivJ → actsE l = 0 → (∀ a ∈ l, a.kind = 1 ∧ No88 a.data) → (m.run houseO mode l).has PrivJ
 | [], m, _, hj, _, _ => hj
 | a :: l, m, h, hj, hl, hs => priv_run (l := l) (h.act (actsE_cons hl).1) (priv_act h hj (actsE_cons hl).1 (hs a List.mem_cons_self).1 (hs a List.mem_cons_self).2) (actsE_cons hl).2 (fun b hb => hs b (List.mem_cons_of_mem _ hb))
theorem top_private {n : Nat} {l : List Act} (hl : actsE l = 0) (hs : ∀ a ∈ l, a.kind = 1 ∧ No88 a.data) : Rep houseStart ((Mach.start houseStart n).run houseO mode l).deeds ((Mach.start houseStart n).run houseO mode l).e :=
 (priv_run (start_ok _ _ _) ⟨start_no n, rfl⟩ hl hs).2
end
section
variable {mode : Int} {m : Mach Wd} {c : Nat}
theorem actsE_all {l : List Act} (h : ∀ a ∈ l, actE a = 0) : actsE l = 0 := by
 induction l with
 | nil => rfl
 | cons a l ih => unfold actsE; rw [h a List.mem_cons_self]; simpa using ih (fun b hb => h b (List.mem_cons_of_mem _ hb))
end
section
variable {E : Type} {o : Ops E} {mode : Int}
theorem proc_len (m : Mach E) (c : Nat) : (m.proc o mode c).busy.length = m.busy.length := by
 unfold Mach.proc
 split
 ·rfl
 ·simp only
  split
  ·rfl
  ·split
   ·simp [Mach.release, Mach.tell, Mach.set]
   ·rfl
theorem step_len (m : Mach E) : (m.step o mode).2.busy.length = m.busy.length := by
 unfold Mach.step
 cases m.firstR mode with
 | some c => exact proc_len m c
 | none =>
  show ((m.enq.assign o).2).busy.length = _
  unfold Mach.assign
  split
  ·rfl
  ·split
   ·simp [Mach.enq]
   ·rfl
theorem iter_len : ∀ (n : Nat) (m : Mach E), (m.iter o mode n).busy.length = m.busy.length
 | 0, m => rfl
 | n + 1, m => by
  unfold Mach.iter
  split
  ·rw [iter_len n, step_len]
  ·exact step_len m
theorem all_len' (m : Mach E) : (m.all o mode).busy.length = m.busy.length := iter_len _ m
theorem leave_len' (m : Mach E) (c : Nat) : (m.leave o c).busy.length = m.busy.length := by
 unfold Mach.leave; simp only; split <;> simp
theorem feed_len : ∀ (n : Nat) (m : Mach E) (c : Nat), (m.feed o mode n c).busy.length = m.busy.length
 | 0, m, c => rfl
 | n + 1, m, c => by
  unfold Mach.feed
  split
  ·rfl
  ·split
   ·rw [leave_len', all_len']
   ·exact feed_len n _ c
theorem act_len (m : Mach E) (a : Act) : (m.act o mode a).busy.length = m.busy.length := by
 unfold Mach.act
 rw [all_len']
 split
 ·exact feed_len _ _ _
 ·exact leave_len' m _
end
section
variable {mode : Int} {m : Mach Wd} {c : Nat}
end
section
variable {base P : Nat} {f : Nat → Value} {G : Nat → Option Nat} {mode : Int} {m : Mach PE} {N : Nat}
set_option maxHeartbeats 1000000 in
theorem all_any (w : World) (h : PMem 0 w base P f G mode m) (hT : Tabs w base) (hI : Inv mode m N) (hN : N ≤ 300000) (hbl : m.busy.length ≤ 8) :
  Calls Tryz.prog 51 #[ptr P 0] w (PPost w base P mode (m.all poolO mode)) := by
 have H0 := jD (And.intro h (And.intro hT hI))
 clear h hT hI
 unfold ptr
 go_enter Tryz.func51, Tryz.ntmps51
 go_wp2_with fail
 go_loopg [2, 3] m.mu (fun gg _ _ wr => Hid (∃ m1 f1 G1, m1.mu ≤ gg ∧ PMem 0 wr base P f1 G1 mode m1 ∧ Inv mode m1 N ∧ m1.all poolO mode = m.all poolO mode ∧ m1.busy.length ≤ 8 ∧ Below base w wr))
 case atStart => exact ⟨m, f, G, nL _, H0.out.1, H0.out.2.2, rfl, hbl, Below.refl _ _⟩
 case round =>
  obtain ⟨m1, f1, G1, hmu, hM, hI, hall, hb8, hB⟩ := hrel.out
  have HS := jD (step_any wr hM (H0.out.2.1.below hB) hI hN hb8)
  unfold ptr at HS
  have HI := jD (And.intro hI (And.intro hall (And.intro hb8 hB)))
  clear hM hI hall hb8 hB hrel
  cases hq : (m1.step poolO mode).1 with
  | true =>
   have HQ := jD hq
   clear hq
   go_wp2_with fail
   refine HS.out.mono ?_
   rintro e w1 ⟨f2, G2, rfl, hM2, hB2⟩
   have HF := jD (And.intro hM2 (HI.out.2.2.2.trans hB2))
   have hmu2 := (HI.out.1.ok.step (o := poolO)).2 HQ.out
   rw [HQ.out]
   clear hM2 hB2 HS
   go_wp2
   go_roundg ((m1.step poolO mode).2.mu)
   case measure => omega
   case rel => exact ⟨_, f2, G2, nL _, HF.out.1, HI.out.1.step, (all_step HI.out.1.ok HQ.out).symm.trans HI.out.2.1, by rw [step_len]; exact HI.out.2.2.1, HF.out.2⟩
  | false =>
   have HQ := jD hq
   clear hq
   go_wp2_with fail
   refine HS.out.mono ?_
   rintro e w1 ⟨f2, G2, rfl, hM2, hB2⟩
   have HF := jD (And.intro hM2 (HI.out.2.2.2.trans hB2))
   rw [HQ.out]
   clear hM2 hB2 HS
   go_wp2
   go_end0
   have e := (all_stop HQ.out).symm.trans HI.out.2.1
   rw [← e]
   exact ⟨f2, G2, rfl, HF.out.1, HF.out.2⟩
end
section
variable {base P : Nat} {f : Nat → Value} {G : Nat → Option Nat} {mode : Int} {m : Mach PE}
set_option maxHeartbeats 4000000 in
theorem release_keeps (w : World) (h : PMem 0 w base P f G mode m) (hm : MOk mode m) (hp : m.e.w.ss.length = m.busy.length) (hk6 : m.e.kept.length = 6) {c s : Nat} (hc : c < 6) (hs : (m.get c).srv = some s) :
  Calls Tryz.prog 76 #[ptr P 0, ptr P (4 + c * 6)] w fun e w' => ∃ f', e = .returned (.tuple #[]) ∧ PMem 0 w' base P f' G mode (m.release poolO c s) ∧ Below base w w' ∧ KeepF G w w' := by
 have hP := h.row.lt
 have hbP := (h.lo 0 P h.p0).1
 have hb := (List.getElem?_eq_some_iff.1 (hm.srv c s hs)).1
 have hlt : s < m.e.w.ss.length := by omega
 obtain ⟨q, hq, hqs⟩ := h.srv c hc
 obtain rfl := hqs s hs
 obtain ⟨gB, oB, cB, hf2, hFB, hgB, hcs⟩ := h.wld.at (by omega)
 obtain ⟨v1, v2, v3, v4, sB, i1, i2, i3, i4⟩ := hcs s hlt
 have a2 := h.row.cell (j := 2) (by omega)
 rw [hf2] at a2
 have a3 := h.row.cell (j := 4 + c * 6 + 3) (by omega)
 rw [hq] at a3
 obtain ⟨q0, q1, q2, q3, q4, l1, l2, l3, l4⟩ := sB
 obtain ⟨E1, e1, rfl, hE1⟩ := l1.form
 obtain ⟨E2, e2, rfl, hE2⟩ := l2.form
 obtain ⟨E3, e3, rfl, hE3⟩ := l3.form
 obtain ⟨E4, e4, rfl, hE4⟩ := l4.form
 have hbd := h.wld.wld.sess.bytes
 have hsI : (s : Int) < (m.e.w.ss.length : Int) := by omega
 have HH := jD h
 have HP0 := jD h.p0
 have HL1 := jD (And.intro l1 i1)
 have HL2 := jD (And.intro l2 i2)
 have hat := at_lt hlt
 have HK6 := jD hk6
 have HN6 := jD hm.n6
 have HHB := jD hb
 have HSR := jD hs
 obtain ⟨S, HS⟩ : ∃ S, Hid (m.e.w.ss[s] = S) := ⟨_, jD rfl⟩
 rw [HS.out] at q0 q1 q2 q3 q4 HL1 HL2 hat
 have HAT := jD hat
 clear hat
 clear h hm hp hk6 hs hq hqs hf2 hFB hcs l1 l2 l3 l4 i1 i2 i3 i4 hE1 hE2 hE3 hE4 hb HS hlt
 generalize m.e.w.ss.length = n2 at *
 unfold ptr
 go_enter Tryz.func76, Tryz.ntmps76
 go_wp2_with fail
 refine wp_region_z 12 (fun wx => wx.cell? ⟨P, 2, none⟩ = some (.slice (some ⟨gB, oB, none⟩) n2 cB) ∧ wx.cell? ⟨P, 4 + c * 6 + 3, none⟩ = some (.int .i64 s) ∧ wx.cell? ⟨gB, oB + s * 5, none⟩ = some (.int .i64 S.st) ∧ wx.cell? ⟨gB, oB + s * 5 + 1, none⟩ = some (.slice E1 S.set.length e1) ∧ wx.cell? ⟨gB, oB + s * 5 + 2, none⟩ = some (.slice E2 S.prep.length e2) ∧ wx.cell? ⟨gB, oB + s * 5 + 3, none⟩ = some (.slice E3 S.sav.length e3) ∧ wx.cell? ⟨gB, oB + s * 5 + 4, none⟩ = some (.slice E4 S.wr.length e4)) (by kernel_rfl) (show w.drew.cell? ⟨P, 2, none⟩ = some (.slice (some ⟨gB, oB, none⟩) n2 cB) ∧ w.drew.cell? ⟨P, 4 + c * 6 + 3, none⟩ = some (.int .i64 s) ∧ w.drew.cell? ⟨gB, oB + s * 5, none⟩ = some (.int .i64 S.st) ∧ w.drew.cell? ⟨gB, oB + s * 5 + 1, none⟩ = some (.slice E1 S.set.length e1) ∧ w.drew.cell? ⟨gB, oB + s * 5 + 2, none⟩ = some (.slice E2 S.prep.length e2) ∧ w.drew.cell? ⟨gB, oB + s * 5 + 3, none⟩ = some (.slice E3 S.sav.length e3) ∧ w.drew.cell? ⟨gB, oB + s * 5 + 4, none⟩ = some (.slice E4 S.wr.length e4) from ⟨a2, a3, q0, q1, q2, q3, q4⟩) (fun hS => ?_)
 refine tkE [(0, []), (1, []), (2, []), (3, []), (4, []), (5, []), (6, []), (7, []), (8, []), (9, []), (10, [])] ?_
 iterate 11
  refine tkS (v := ?_) hS ?_ ?_
  rotate_left
  ·(intro w hSw; (try dsimp only at hSw); (try simp only [gTA, gCZ, gCS]); go_simp; try with_reducible rfl)
  (try simp only [gTA, gCZ, gCS, Act.put, sTA, sCZ, sCS])
 refine tkF ?_
 refine wpAnyZ_one (i := 11) rfl rfl (by kernel_rfl) (fun K hK => ?_)
 (try simp only [gTA, gCZ, gCS])
 go_simp
 have hS2 := (show (w.drew.alloc (.cells #[.int .i64 0, .slice none 0 0, .slice none 0 0, .slice none 0 0, .slice none 0 0] 115)).cell? ⟨P, 2, none⟩ = some (.slice (some ⟨gB, oB, none⟩) n2 cB) ∧ (w.drew.alloc (.cells #[.int .i64 0, .slice none 0 0, .slice none 0 0, .slice none 0 0, .slice none 0 0] 115)).cell? ⟨P, 4 + c * 6 + 3, none⟩ = some (.int .i64 s) ∧ (w.drew.alloc (.cells #[.int .i64 0, .slice none 0 0, .slice none 0 0, .slice none 0 0, .slice none 0 0] 115)).cell? ⟨gB, oB + s * 5, none⟩ = some (.int .i64 S.st) ∧ (w.drew.alloc (.cells #[.int .i64 0, .slice none 0 0, .slice none 0 0, .slice none 0 0, .slice none 0 0] 115)).cell? ⟨gB, oB + s * 5 + 1, none⟩ = some (.slice E1 S.set.length e1) ∧ (w.drew.alloc (.cells #[.int .i64 0, .slice none 0 0, .slice none 0 0, .slice none 0 0, .slice none 0 0] 115)).cell? ⟨gB, oB + s * 5 + 2, none⟩ = some (.slice E2 S.prep.length e2) ∧ (w.drew.alloc (.cells #[.int .i64 0, .slice none 0 0, .slice none 0 0, .slice none 0 0, .slice none 0 0] 115)).cell? ⟨gB, oB + s * 5 + 3, none⟩ = some (.slice E3 S.sav.length e3) ∧ (w.drew.alloc (.cells #[.int .i64 0, .slice none 0 0, .slice none 0 0, .slice none 0 0, .slice none 0 0] 115)).cell? ⟨gB, oB + s * 5 + 4, none⟩ = some (.slice E4 S.wr.length e4) from ⟨((((Below.refl w.heap.size w).drew).alloc (nL _) (.cells #[.int .i64 0, .slice none 0 0, .slice none 0 0, .slice none 0 0, .slice none 0 0] 115)).cell (p := ⟨P, 2, none⟩) hP).trans a2, ((((Below.refl w.heap.size w).drew).alloc (nL _) (.cells #[.int .i64 0, .slice none 0 0, .slice none 0 0, .slice none 0 0, .slice none 0 0] 115)).cell (p := ⟨P, 4 + c * 6 + 3, none⟩) hP).trans a3, ((((Below.refl w.heap.size w).drew).alloc (nL _) (.cells #[.int .i64 0, .slice none 0 0, .slice none 0 0, .slice none 0 0, .slice none 0 0] 115)).cell (p := ⟨gB, oB + s * 5, none⟩) hgB).trans q0, ((((Below.refl w.heap.size w).drew).alloc (nL _) (.cells #[.int .i64 0, .slice none 0 0, .slice none 0 0, .slice none 0 0, .slice none 0 0] 115)).cell (p := ⟨gB, oB + s * 5 + 1, none⟩) hgB).trans q1, ((((Below.refl w.heap.size w).drew).alloc (nL _) (.cells #[.int .i64 0, .slice none 0 0, .slice none 0 0, .slice none 0 0, .slice none 0 0] 115)).cell (p := ⟨gB, oB + s * 5 + 2, none⟩) hgB).trans q2, ((((Below.refl w.heap.size w).drew).alloc (nL _) (.cells #[.int .i64 0, .slice none 0 0, .slice none 0 0, .slice none 0 0, .slice none 0 0] 115)).cell (p := ⟨gB, oB + s * 5 + 3, none⟩) hgB).trans q3, ((((Below.refl w.heap.size w).drew).alloc (nL _) (.cells #[.int .i64 0, .slice none 0 0, .slice none 0 0, .slice none 0 0, .slice none 0 0] 115)).cell (p := ⟨gB, oB + s * 5 + 4, none⟩) hgB).trans q4⟩)
 refine hK.out _ _ hS2 ?_
 clear hK K hS
 have hS := hS2
 clear hS2
 (try simp only [gTA, gCZ, gCS, Act.put, sTA, sCZ, sCS])
 refine wpAnyZ_last rfl rfl (by kernel_rfl) (by kernel_rfl) (fun K hK => ?_)
 (try simp only [gTA, gCZ, gCS])
 go_simp
 refine hK.out _ _ ?_
 clear hK K
 (try simp only [gTA, gCZ, gCS, Act.put, sTA, sCZ, sCS])
 go_wp2_with fail
 have nA : Below w.heap.size w (w.alloc (.cells #[.int .i64 S.st, .slice E1 S.set.length e1, .slice E2 S.prep.length e2, .slice E3 S.sav.length e3, .slice E4 S.wr.length e4] 115)).drew := (((Below.refl w.heap.size w).alloc (nL _) (.cells #[.int .i64 S.st, .slice E1 S.set.length e1, .slice E2 S.prep.length e2, .slice E3 S.sav.length e3, .slice E4 S.wr.length e4] 115))).drew
 have X := RowTo.whole w #[.int .i64 S.st, .slice E1 S.set.length e1, .slice E2 S.prep.length e2, .slice E3 S.sav.length e3, .slice E4 S.wr.length e4] 115
 have t1 : (w.alloc (.cells #[.int .i64 S.st, .slice E1 S.set.length e1, .slice E2 S.prep.length e2, .slice E3 S.sav.length e3, .slice E4 S.wr.length e4] 115)).drew.cell? ⟨w.heap.size, 1, none⟩ = some (.slice E1 S.set.length e1) := X.cell (j := 1) (by simp)
 have t2 : (w.alloc (.cells #[.int .i64 S.st, .slice E1 S.set.length e1, .slice E2 S.prep.length e2, .slice E3 S.sav.length e3, .slice E4 S.wr.length e4] 115)).drew.cell? ⟨w.heap.size, 2, none⟩ = some (.slice E2 S.prep.length e2) := X.cell (j := 2) (by simp)
 have hM1 := HH.out.below nA
 have hl1 := lst_free HL1.out nA.size (fun b _ hb => nA.block b hb)
 have hl2 := lst_free HL2.out nA.size (fun b _ hb => nA.block b hb)
 have hz1 : (w.alloc (.cells #[.int .i64 S.st, .slice E1 S.set.length e1, .slice E2 S.prep.length e2, .slice E3 S.sav.length e3, .slice E4 S.wr.length e4] 115)).drew.heap.size = w.heap.size + 1 := by simp [World.drew]
 have HKA := jD (KeepF.below (G := G) nA)
 have HBA := jD (nA.mono (Nat.le_trans hbP (Nat.le_of_lt hP)))
 generalize (w.alloc (.cells #[.int .i64 S.st, .slice E1 S.set.length e1, .slice E2 S.prep.length e2, .slice E3 S.sav.length e3, .slice E4 S.wr.length e4] 115)).drew = W1 at *
 have HL1b := jD hl1
 have HL2b := jD hl2
 have HM1 := jD hM1
 have p4 := hM1.row.cell (j := 4 + c * 6 + 4) (by omega)
 have p5 := hM1.row.cell (j := 4 + c * 6 + 5) (by omega)
 have z4 := hM1.row.frozen (4 + c * 6 + 4)
 have z5 := hM1.row.frozen (4 + c * 6 + 5)
 have hPX : P ≠ w.heap.size := by omega
 clear hM1 hl1 hl2 X nA a2 a3 q0 q1 q2 q3 q4 hS HL1 HL2 HH
 refine wp_region_z 11 (fun wx => wx.cell? ⟨w.heap.size, 1, none⟩ = some (.slice E1 S.set.length e1) ∧ wx.cell? ⟨w.heap.size, 2, none⟩ = some (.slice E2 S.prep.length e2)) (by kernel_rfl) (show W1.drew.cell? ⟨w.heap.size, 1, none⟩ = some (.slice E1 S.set.length e1) ∧ W1.drew.cell? ⟨w.heap.size, 2, none⟩ = some (.slice E2 S.prep.length e2) from ⟨t1, t2⟩) (fun hS => ?_)
 refine tkE [(0, []), (1, []), (2, []), (3, []), (4, []), (5, []), (6, []), (7, [])] ?_
 iterate 8
  refine tkS (v := ?_) hS ?_ ?_
  rotate_left
  ·(intro w hSw; (try dsimp only at hSw); (try simp only [gTA, gCZ, gCS]); go_simp; try with_reducible rfl)
  (try simp only [gTA, gCZ, gCS, Act.put, sTA, sCZ, sCS])
 refine tkF ?_
 refine wpAnyZ_one (i := 8) rfl rfl (by kernel_rfl) (fun K hK => ?_)
 (try simp only [gTA, gCZ, gCS])
 go_simp
 have hS2 := (show (W1.drew.setCell ⟨P, 4 + c * 6 + 4, none⟩ (.slice E1 S.set.length e1)).cell? ⟨w.heap.size, 1, none⟩ = some (.slice E1 S.set.length e1) ∧ (W1.drew.setCell ⟨P, 4 + c * 6 + 4, none⟩ (.slice E1 S.set.length e1)).cell? ⟨w.heap.size, 2, none⟩ = some (.slice E2 S.prep.length e2) from ⟨cell_sty (p := ⟨P, 4 + c * 6 + 4, none⟩) hPX t1, cell_sty (p := ⟨P, 4 + c * 6 + 4, none⟩) hPX t2⟩)
 refine hK.out _ _ hS2 ?_
 clear hK K hS
 have hS := hS2
 clear hS2
 (try simp only [gTA, gCZ, gCS, Act.put, sTA, sCZ, sCS])
 refine tkE [(9, [10]), (10, [])] ?_
 iterate 2
  refine tkS (v := ?_) hS ?_ ?_
  rotate_left
  ·(intro w hSw; (try dsimp only at hSw); (try simp only [gTA, gCZ, gCS]); go_simp; try with_reducible rfl)
  (try simp only [gTA, gCZ, gCS, Act.put, sTA, sCZ, sCS])
 refine tkF ?_
 refine wpAnyZ_last rfl rfl (by kernel_rfl) (by kernel_rfl) (fun K hK => ?_)
 (try simp only [gTA, gCZ, gCS])
 go_simp
 refine hK.out _ _ ?_
 clear hK K
 (try simp only [gTA, gCZ, gCS, Act.put, sTA, sCZ, sCS])
 go_wp2_with fail
 have hM2 := (HM1.out.setLists hc HK6.out HL1b.out HL2b.out).below (Below.refl _ _).drew
 have hB2 := ((HBA.out.setCell (p := ⟨P, 4 + c * 6 + 4, none⟩) hbP (.slice E1 S.set.length e1)).setCell (p := ⟨P, 4 + c * 6 + 5, none⟩) hbP (.slice E2 S.prep.length e2)).drew
 have hK2 : KeepF G w (((W1.setCell ⟨P, 4 + c * 6 + 4, none⟩ (.slice E1 S.set.length e1)).setCell ⟨P, 4 + c * 6 + 5, none⟩ (.slice E2 S.prep.length e2)).drew) := ((HKA.out.set (k := 0) HP0.out (4 + c * 6 + 4) (.slice E1 S.set.length e1)).set (k := 0) HP0.out (4 + c * 6 + 5) (.slice E2 S.prep.length e2))
 obtain ⟨W2, HW2⟩ : ∃ u, Hid (((W1.setCell ⟨P, 4 + c * 6 + 4, none⟩ (.slice E1 S.set.length e1)).setCell ⟨P, 4 + c * 6 + 5, none⟩ (.slice E2 S.prep.length e2)).drew = u) := ⟨_, jD rfl⟩
 rw [HW2.out] at hM2 hB2 hK2 ⊢
 clear HW2 hS t1 t2 p4 p5 z4 z5 HM1 HL1b HL2b HBA
 obtain ⟨bb, ob, cp, g1, f3, hle, ⟨y, hy⟩, hfz, hM3⟩ := hM2.setBusy (j := s) HHB.out false
 obtain ⟨q, hq, hqs⟩ := hM2.srv c hc
 obtain rfl := hqs s HSR.out
 have b3 := hM2.row.cell (j := 3) (by omega)
 rw [f3] at b3
 have bs := hM2.row.cell (j := 4 + c * 6 + 3) (by omega)
 rw [hq] at bs
 have hbb := hM2.lo 1 bb g1
 have hPl := hM2.row.lt
 have hPb : P ≠ bb := fun e => hM2.noP (k := 1) (by omega) (by rw [g1, e])
 have c2 := hM3.row.cell (j := 4 + c * 6 + 2) (by omega)
 have z2 := hM3.row.frozen (4 + c * 6 + 2)
 have hM4 := (hM3.setNone hc HN6.out).below (Below.refl _ _).drew
 have hB4 := ((hB2.setCell (p := ⟨bb, ob + s, none⟩) hbb.1 (.bool false)).setCell (p := ⟨P, 4 + c * 6 + 2, none⟩) hbP (.bool false)).drew
 have hEq : m.release poolO c s = Mach.set { ({ m with e := ⟨m.e.w, m.e.kept.set c (S.set, S.prep)⟩ } : Mach PE) with busy := ({ m with e := ⟨m.e.w, m.e.kept.set c (S.set, S.prep)⟩ } : Mach PE).busy.set s false } c { Mach.get { ({ m with e := ⟨m.e.w, m.e.kept.set c (S.set, S.prep)⟩ } : Mach PE) with busy := ({ m with e := ⟨m.e.w, m.e.kept.set c (S.set, S.prep)⟩ } : Mach PE).busy.set s false } c with srv := none } := by
  show _ = _
  unfold Mach.release poolO PE.free Mach.set
  simp only [HAT.out]
  rfl
 rw [← hEq] at hM4
 have hK4 : KeepF G w (((W2.setCell ⟨bb, ob + s, none⟩ (.bool false)).setCell ⟨P, 4 + c * 6 + 2, none⟩ (.bool false)).drew) := (hK2.set (k := 1) g1 (ob + s) (.bool false)).set (k := 0) HP0.out (4 + c * 6 + 2) (.bool false)
 have HF := jD (And.intro hM4 (And.intro hB4 hK4))
 have hsB : s < m.busy.length := HHB.out
 have hsBI : (s : Int) < (m.busy.length : Int) := by omega
 generalize m.busy.length = nB at *
 clear hM2 hM3 hM4 hB4 hB2 hK2 hK4 hEq hq hqs f3 g1 HHB HSR HN6 HK6 HAT
 refine wp_region_z 9 (fun wx => wx.cell? ⟨P, 3, none⟩ = some (.slice (some ⟨bb, ob, none⟩) nB cp) ∧ wx.cell? ⟨P, 4 + c * 6 + 3, none⟩ = some (.int .i64 s)) (by kernel_rfl) (show W2.drew.cell? ⟨P, 3, none⟩ = some (.slice (some ⟨bb, ob, none⟩) nB cp) ∧ W2.drew.cell? ⟨P, 4 + c * 6 + 3, none⟩ = some (.int .i64 s) from ⟨b3, bs⟩) (fun hS => ?_)
 refine tkE [(0, []), (1, []), (2, []), (3, []), (4, []), (5, []), (6, []), (7, []), (8, [])] ?_
 iterate 9
  refine tkS (v := ?_) hS ?_ ?_
  rotate_left
  ·(intro w hSw; (try dsimp only at hSw); (try simp only [gTA, gCZ, gCS]); go_simp; try with_reducible rfl)
  (try simp only [gTA, gCZ, gCS, Act.put, sTA, sCZ, sCS])
 refine tkF ?_
 refine wpAnyZ_last rfl rfl (by kernel_rfl) (by kernel_rfl) (fun K hK => ?_)
 (try simp only [gTA, gCZ, gCS])
 go_simp
 refine hK.out _ _ ?_
 clear hK K
 (try simp only [gTA, gCZ, gCS, Act.put, sTA, sCZ, sCS])
 go_wp2
 go_end0
 exact ⟨_, rfl, HF.out.1, HF.out.2.1, HF.out.2.2⟩
end
end Go.Proofs.YtpbaobmegomfpabGreatDoor
