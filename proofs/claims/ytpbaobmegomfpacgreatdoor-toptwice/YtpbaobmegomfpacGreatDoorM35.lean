/-
  Texts of the proof, one behind the other: PStep, HouseS, HouseT, HouseG, PAll.
-/
import Derived.Test.YtpbaobmegomfpacGreatDoorM34
import Derived.Test.YtpbaobmegomfpacGreatDoorM24
import Derived.Test.YtpbaobmegomfpacGreatDoorM18
import Derived.Sort.WalkB12
set_option linter.unusedVariables false
set_option linter.unusedSimpArgs false
set_option maxRecDepth 100000
open List renaming getElem_toArray → gTA, getElem_cons_zero → gCZ, getElem_cons_succ → gCS, setIfInBounds_toArray → sTA, set_cons_zero → sCZ, set_cons_succ → sCS
open Go.Lib renaming hid → jD
open Nat renaming le_refl → nL
namespace Go.Proofs.YtpbaobmegomfpacGreatDoor
open Go.RowKit
section
variable {base P : Nat} {f : Nat → Value} {G : Nat → Option Nat} {mode : Int} {m : Mach PE} {N : Nat}
theorem first_is {c : Nat} (hc : c < 6) (h0 : ∀ d, d < c → readyB mode (m.get d) = false) (h1 : readyB mode (m.get c) = true) : m.firstR mode = some c := by
 cases hf : m.firstR mode with
 | none => have := first_none hf hc; rw [h1] at this; cases this
 | some d =>
  obtain ⟨hd, hr⟩ := first_some hf
  rcases Nat.lt_trichotomy d c with h | h | h
  ·rw [h0 d h] at hr; cases hr
  ·rw [h]
  ·unfold Mach.firstR at hf
   rw [List.find?_eq_some_iff_append] at hf
   obtain ⟨_, xs, ys, e, ha⟩ := hf
   have hm : c ∈ xs := by
    have hcr : c ∈ List.range 6 := List.mem_range.2 hc
    have hs : List.Pairwise (· < ·) (List.range 6) := List.pairwise_lt_range
    rw [e] at hcr hs
    rcases List.mem_append.1 hcr with hh | hh
    ·exact hh
    ·rcases List.mem_cons.1 hh with hh | hh
     ·omega
     ·have := (List.pairwise_cons.1 (List.pairwise_append.1 hs).2.1).1 c hh
      omega
   have := ha c hm
   rw [h1] at this
   cases this
theorem first_no (h0 : ∀ d, d < 6 → readyB mode (m.get d) = false) : m.firstR mode = none := by
 cases hf : m.firstR mode with
 | none => rfl
 | some d => obtain ⟨hd, hr⟩ := first_some hf; rw [h0 d hd] at hr; cases hr
set_option maxHeartbeats 1000000 in
theorem step_any (w : World) (h : PMem 0 w base P f G mode m) (hT : Tabs w base) (hI : Inv mode m N) (hN : N ≤ 300000) (hbl : m.busy.length ≤ 8) :
  Calls Tryz.prog 76 #[ptr P 0] w (PPostB w base P mode (m.step poolO mode)) := by
 have hbP := (h.lo 0 P h.p0).1
 have H0 := jD (And.intro h (And.intro hT hI))
 have hPw := h.row.lt
 clear h hT hI
 unfold ptr
 go_enter Tryz.func76, Tryz.ntmps76
 go_wp2
 go_loopw [4] (fun i wr => ∃ k : Nat, k ≤ 6 ∧ i = .int .i64 k ∧ Hid ((∀ d, d < k → readyB mode (m.get d) = false) ∧ Below w.heap.size w wr)) (fun i _ => 6 - (intOf i).toNat)
 case atStart => exact ⟨0, by omega, rfl, (fun d hd => absurd hd (by omega)), Below.refl _ _⟩
 case round =>
  obtain ⟨k, hk, rfl, HZ⟩ := hrel
  have HM := jD (H0.out.1.below HZ.out.2)
  have HB := jD (HZ.out.2.mono (Nat.le_trans hbP (Nat.le_of_lt hPw)))
  have HT := jD (H0.out.2.1.below HB.out)
  by_cases hlt : k < 6
  ·have HR := jD (ready_any wr HM.out hlt)
   unfold ptr at HR
   cases hq : readyB mode (m.get k) with
   | true =>
    rw [hq] at HR
    have HE := jD (show m.step poolO mode = (true, m.proc poolO mode k) by unfold Mach.step; rw [first_is hlt HZ.out.1 hq])
    have HQ := jD hq
    clear hq
    go_wp2_with fail
    refine HR.out.mono ?_
    rintro e w1 ⟨rfl, hb1⟩
    have HP := jD (process_any w1 (HM.out.below hb1) (HT.out.below (hb1.mono (Nat.le_trans hbP (Nat.le_of_lt HM.out.row.lt)))) H0.out.2.2 hN hlt HQ.out)
    have HB1 := jD (HB.out.trans (hb1.mono (Nat.le_trans hbP (Nat.le_of_lt HM.out.row.lt))))
    unfold ptr at HP
    clear hb1 HR
    go_wp2_with fail
    refine HP.out.mono ?_
    rintro e w2 ⟨f2, G2, rfl, hM2, hB2⟩
    have HF := jD (And.intro hM2 (HB1.out.trans hB2))
    clear hM2 hB2 HP
    go_wp2
    go_ret
    rw [HE.out]
    exact ⟨f2, G2, rfl, HF.out.1, HF.out.2⟩
   | false =>
    rw [hq] at HR
    have HF := jD (show ∀ d, d < k + 1 → readyB mode (m.get d) = false from fun d hd => by
     rcases Nat.lt_or_ge d k with h' | h'
     ·exact HZ.out.1 d h'
     ·obtain rfl : d = k := by omega
      exact hq)
    have HZ2 := jD HZ.out.2
    clear hq HZ
    go_wp2_with fail
    refine HR.out.mono ?_
    rintro e w1 ⟨rfl, hb1⟩
    have HB1 := jD (bel_add' HZ2.out hb1 HZ2.out.size)
    clear hb1 HR
    go_wp2
    go_roundw
    case rel => exact ⟨k + 1, by omega, by go_num, HF.out, HB1.out⟩
    case measure => simp [intOf]; omega
  ·obtain rfl : k = 6 := by omega
   have hfn := first_no HZ.out.1
   have HE := jD (show m.step poolO mode = m.enq.assign poolO by unfold Mach.step; rw [hfn])
   have HQ := jD (enqueue_any wr HM.out H0.out.2.2.line)
   have HIE := jD (H0.out.2.2.enq hfn)
   unfold ptr at HQ
   clear hfn HZ
   go_wp2_with fail
   refine HQ.out.mono ?_
   rintro e w1 ⟨f1, G1, rfl, hM1, hB1⟩
   have HA := jD (assign_any w1 hM1 (HT.out.below hB1) HIE.out hbl)
   have HB1 := jD (HB.out.trans hB1)
   unfold ptr at HA
   clear hM1 hB1 HQ
   go_wp2_with fail
   refine HA.out.mono ?_
   rintro e w2 ⟨f2, G2, rfl, hM2, hB2⟩
   have HF := jD (And.intro hM2 (HB1.out.trans hB2))
   clear hM2 hB2 HA
   go_wp2
   go_ret
   rw [HE.out]
   exact ⟨f2, G2, rfl, HF.out.1, HF.out.2⟩
end
section
variable {E : Type} {o : Ops E} {mode : Int} {m : Mach E} {c : Nat}
end
section
variable {mode : Int} {m : Mach Wd} {c : Nat}
end
section
variable {mode : Int} {m : Mach Wd} {c : Nat}
end
theorem ext_size {b : ByteArray} {j : Nat} : (b.extract j b.size).size = b.size - j := by simp
section
variable {mode : Int}
end
structure More (a d : D) : Prop where
 len : d.sent.length = a.sent.length
 sent : ∀ c, ∃ x, d.sent.getD c ⟨#[]⟩ = a.sent.getD c ⟨#[]⟩ ++ x
 deeds : ∃ l, d.deeds = a.deeds ++ l
theorem More.refl (a : D) : More a a := ⟨rfl, fun c => ⟨⟨#[]⟩, (app_empty (empty_of rfl)).symm⟩, [], by simp⟩
theorem More.tell {a d : D} (h : More a d) (c : Nat) (x : Ans) (st : Int) : More a (d.tell c x st) := by
 refine ⟨by simp [D.tell, h.len], fun e => ?_, h.deeds⟩
 obtain ⟨y, hy⟩ := h.sent e
 show ∃ x_1, (d.sent.set c (d.sent.getD c ⟨#[]⟩ ++ ansM x st)).getD e ⟨#[]⟩ = _
 rw [getD_set]
 split
 ·rename_i hh
  obtain ⟨rfl, _⟩ := hh
  exact ⟨y ++ ansM x st, by rw [hy, ByteArray.append_assoc]⟩
 ·exact ⟨y, hy⟩
theorem More.one {a d : D} (h : More a d) (mode : Int) (c : Nat) (r : Req) : More a (d.one mode c r) := by
 unfold D.one
 split
 ·exact h.tell _ _ _
 ·obtain ⟨l, hl⟩ := h.deeds
  exact More.tell (d := ⟨_, d.sent, d.deeds ++ [_]⟩) ⟨h.len, h.sent, l ++ [_], by show d.deeds ++ _ = _; rw [hl, List.append_assoc]⟩ _ _ _
theorem run_more {mode : Int} {m : Mach Wd} (h : MOk mode m) {l : List Act} (hl : actsE l = 0) : More m.d (m.run houseO mode l).d :=
 run_keeps (I := More m.d) (fun d c r _ _ hi => hi.one mode c r) (fun d c _ hi => ⟨hi.len, hi.sent, hi.deeds⟩) h (More.refl _) hl
theorem actsE_app : ∀ {l k : List Act}, actsE (l ++ k) = 0 ↔ actsE l = 0 ∧ actsE k = 0
 | [], k => by simp [actsE]
 | a :: l, k => by
  constructor
  ·intro h
   obtain ⟨h1, h2⟩ := actsE_cons h
   obtain ⟨h3, h4⟩ := actsE_app.1 h2
   exact ⟨by unfold actsE; rw [h1]; simpa using h3, h4⟩
  ·intro ⟨h, hk⟩
   obtain ⟨h1, h2⟩ := actsE_cons h
   show actsE (a :: (l ++ k)) = 0
   unfold actsE; rw [h1]; simpa using actsE_app.2 ⟨h2, hk⟩
theorem run_app {E : Type} {o : Ops E} {mode : Int} {m : Mach E} {l k : List Act} : m.run o mode (l ++ k) = (m.run o mode l).run o mode k := List.foldl_append ..
theorem top_twice {mode : Int} {n : Nat} {l k : List Act} (h : actsE (l ++ k) = 0) : More ((Mach.start houseStart n).run houseO mode l).d ((Mach.start houseStart n).run houseO mode (l ++ k)).d := by
 obtain ⟨h1, h2⟩ := actsE_app.1 h
 rw [run_app]
 exact run_more ((start_ok _ _ _).run h1) h2
section
variable {mode : Int} {m : Mach Wd} {c : Nat}
end
section
variable {mode : Int} {m : Mach Wd} {c : Nat}
theorem actsE_all {l : List Act} (h : ∀ a ∈ l, actE a = 0) : actsE l = 0 := by
 induction l with
 | nil => rfl
 | cons a l ih => unfold actsE; rw [h a List.mem_cons_self]; simpa using ih (fun b hb => h b (List.mem_cons_of_mem _ hb))
end
section
variable {E : Type} {o : Ops E} {mode : Int}
theorem proc_len (m : Mach E) (c : Nat) : (m.proc o mode c).busy.length = m.busy.length := by
 unfold Mach.proc
 split
 ·rfl
 ·simp only
  split
  ·rfl
  ·split
   ·simp [Mach.release, Mach.tell, Mach.set]
   ·rfl
theorem step_len (m : Mach E) : (m.step o mode).2.busy.length = m.busy.length := by
 unfold Mach.step
 cases m.firstR mode with
 | some c => exact proc_len m c
 | none =>
  show ((m.enq.assign o).2).busy.length = _
  unfold Mach.assign
  split
  ·rfl
  ·split
   ·simp [Mach.enq]
   ·rfl
theorem iter_len : ∀ (n : Nat) (m : Mach E), (m.iter o mode n).busy.length = m.busy.length
 | 0, m => rfl
 | n + 1, m => by
  unfold Mach.iter
  split
  ·rw [iter_len n, step_len]
  ·exact step_len m
theorem all_len' (m : Mach E) : (m.all o mode).busy.length = m.busy.length := iter_len _ m
theorem leave_len' (m : Mach E) (c : Nat) : (m.leave o c).busy.length = m.busy.length := by
 unfold Mach.leave; simp only; split <;> simp
theorem feed_len : ∀ (n : Nat) (m : Mach E) (c : Nat), (m.feed o mode n c).busy.length = m.busy.length
 | 0, m, c => rfl
 | n + 1, m, c => by
  unfold Mach.feed
  split
  ·rfl
  ·split
   ·rw [leave_len', all_len']
   ·exact feed_len n _ c
theorem act_len (m : Mach E) (a : Act) : (m.act o mode a).busy.length = m.busy.length := by
 unfold Mach.act
 rw [all_len']
 split
 ·exact feed_len _ _ _
 ·exact leave_len' m _
end
section
variable {mode : Int} {m : Mach Wd} {c : Nat}
end
section
variable {base P : Nat} {f : Nat → Value} {G : Nat → Option Nat} {mode : Int} {m : Mach PE} {N : Nat}
set_option maxHeartbeats 1000000 in
theorem all_any (w : World) (h : PMem 0 w base P f G mode m) (hT : Tabs w base) (hI : Inv mode m N) (hN : N ≤ 300000) (hbl : m.busy.length ≤ 8) :
  Calls Tryz.prog 59 #[ptr P 0] w (PPost w base P mode (m.all poolO mode)) := by
 have H0 := jD (And.intro h (And.intro hT hI))
 clear h hT hI
 unfold ptr
 go_enter Tryz.func59, Tryz.ntmps59
 go_wp2_with fail
 go_loopg [2, 3] m.mu (fun gg _ _ wr => Hid (∃ m1 f1 G1, m1.mu ≤ gg ∧ PMem 0 wr base P f1 G1 mode m1 ∧ Inv mode m1 N ∧ m1.all poolO mode = m.all poolO mode ∧ m1.busy.length ≤ 8 ∧ Below base w wr))
 case atStart => exact ⟨m, f, G, nL _, H0.out.1, H0.out.2.2, rfl, hbl, Below.refl _ _⟩
 case round =>
  obtain ⟨m1, f1, G1, hmu, hM, hI, hall, hb8, hB⟩ := hrel.out
  have HS := jD (step_any wr hM (H0.out.2.1.below hB) hI hN hb8)
  unfold ptr at HS
  have HI := jD (And.intro hI (And.intro hall (And.intro hb8 hB)))
  clear hM hI hall hb8 hB hrel
  cases hq : (m1.step poolO mode).1 with
  | true =>
   have HQ := jD hq
   clear hq
   go_wp2_with fail
   refine HS.out.mono ?_
   rintro e w1 ⟨f2, G2, rfl, hM2, hB2⟩
   have HF := jD (And.intro hM2 (HI.out.2.2.2.trans hB2))
   have hmu2 := (HI.out.1.ok.step (o := poolO)).2 HQ.out
   rw [HQ.out]
   clear hM2 hB2 HS
   go_wp2
   go_roundg ((m1.step poolO mode).2.mu)
   case measure => omega
   case rel => exact ⟨_, f2, G2, nL _, HF.out.1, HI.out.1.step, (all_step HI.out.1.ok HQ.out).symm.trans HI.out.2.1, by rw [step_len]; exact HI.out.2.2.1, HF.out.2⟩
  | false =>
   have HQ := jD hq
   clear hq
   go_wp2_with fail
   refine HS.out.mono ?_
   rintro e w1 ⟨f2, G2, rfl, hM2, hB2⟩
   have HF := jD (And.intro hM2 (HI.out.2.2.2.trans hB2))
   rw [HQ.out]
   clear hM2 hB2 HS
   go_wp2
   go_end0
   have e := (all_stop HQ.out).symm.trans HI.out.2.1
   rw [← e]
   exact ⟨f2, G2, rfl, HF.out.1, HF.out.2⟩
end
end Go.Proofs.YtpbaobmegomfpacGreatDoor
