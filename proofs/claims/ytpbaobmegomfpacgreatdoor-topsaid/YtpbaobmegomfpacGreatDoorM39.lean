/-
  Texts of the proof, one behind the other: PChk.
-/
import Derived.Test.YtpbaobmegomfpacGreatDoorM38
import Derived.Deep.QuietTactic
import Derived.BigQuiet
import Derived.IntWalk
set_option linter.unusedVariables false
set_option linter.unusedSimpArgs false
set_option maxRecDepth 100000
open List renaming getElem_toArray → gTA, getElem_cons_zero → gCZ, getElem_cons_succ → gCS, setIfInBounds_toArray → sTA, set_cons_zero → sCZ, set_cons_succ → sCS
open Go.Lib renaming hid → jD
open Nat renaming le_refl → nL
namespace Go.Proofs.YtpbaobmegomfpacGreatDoor
open Go.RowKit
set_option maxHeartbeats 1000000 in
theorem checkAct_any (k c : Int) (d : ByteArray) (w : World) : Calls Tryz.prog 56 #[.agg #[.int .i64 k, .int .i64 c, .string d]] w fun e w' => e = .returned (.int .i64 (actE ⟨k, c, d⟩)) ∧ Below w.heap.size w w' := by
 have nn := (Below.refl w.heap.size w).alloc (nL _) (.cells #[.int .i64 k, .int .i64 c, .string d] 45)
 by_cases h1 : k = 1 ∨ k = 2
 case neg =>
  have t1 : (k != 1) = true := bne_iff_ne.2 (fun h => h1 (.inl h))
  have t2 : (k != 2) = true := bne_iff_ne.2 (fun h => h1 (.inr h))
  have HE := jD (show actE ⟨k, c, d⟩ = 3 by unfold actE; rw [if_pos h1])
  have HN := jD nn
  clear h1 nn
  go_enter Tryz.func56, Tryz.ntmps56
  go_wp2
  go_ret
  exact ⟨by rw [HE.out]; rfl, HN.out⟩
 by_cases h2 : c < 0
 ·have t3 : decide (c < 0) = true := decide_eq_true h2
  have HE := jD (show actE ⟨k, c, d⟩ = 2 by unfold actE; rw [if_neg (fun h => h h1), if_pos (.inl h2)])
  have HN := jD nn
  clear h2 nn
  rcases h1 with rfl | rfl
  all_goals
   go_enter Tryz.func56, Tryz.ntmps56
   go_wp2
   go_ret
   exact ⟨by rw [HE.out]; rfl, HN.out⟩
 have t3 : decide (c < 0) = false := decide_eq_false h2
 by_cases h3 : 6 ≤ c
 ·have t4 : decide (6 ≤ c) = true := decide_eq_true h3
  have HE := jD (show actE ⟨k, c, d⟩ = 2 by unfold actE; rw [if_neg (fun h => h h1), if_pos (.inr h3)])
  have HN := jD nn
  clear h2 h3 nn
  rcases h1 with rfl | rfl
  all_goals
   go_enter Tryz.func56, Tryz.ntmps56
   go_wp2
   go_ret
   exact ⟨by rw [HE.out]; rfl, HN.out⟩
 have t4 : decide (6 ≤ c) = false := decide_eq_false h3
 by_cases h4 : 1000 < d.size
 ·have t5 : decide (1000 < (d.size : Int)) = true := decide_eq_true (by omega)
  have HE := jD (show actE ⟨k, c, d⟩ = 1 by unfold actE; rw [if_neg (fun h => h h1), if_neg (by simp only; omega), if_pos h4])
  have HN := jD nn
  clear h2 h3 h4 nn
  rcases h1 with rfl | rfl
  all_goals
   go_enter Tryz.func56, Tryz.ntmps56
   go_wp2
   go_ret
   exact ⟨by rw [HE.out]; rfl, HN.out⟩
 have t5 : decide (1000 < (d.size : Int)) = false := decide_eq_false (by omega)
 have HE := jD (show actE ⟨k, c, d⟩ = 0 by unfold actE; rw [if_neg (fun h => h h1), if_neg (by simp only; omega), if_neg h4])
 have HN := jD nn
 clear h2 h3 h4 nn
 rcases h1 with rfl | rfl
 all_goals
  go_enter Tryz.func56, Tryz.ntmps56
  go_wp2
  go_ret
  exact ⟨by rw [HE.out]; rfl, HN.out⟩
set_option maxHeartbeats 1000000 in
theorem checkRun_any (m s : Int) (v : Value) (l : List Act) (w : World) (hl : ALst w w.heap.size v l) :
  Calls Tryz.prog 42 #[.agg #[.int .i64 m, .int .i64 s], v] w fun e w' => e = .returned (.int .i64 (runE m s l)) ∧ Below w.heap.size w w' := by
 obtain ⟨A, c, rfl, hc⟩ := hl.form
 have hby := hl.bytes
 have HL := jD hl
 have HCS := jD (checkSetup_any m s)
 clear hl
 by_cases hs : setupE m s = 0
 case neg =>
  have HE := jD (show runE m s l = setupE m s by unfold runE; rw [if_pos hs])
  have t1 : (setupE m s != 0) = true := bne_iff_ne.2 hs
  clear hs
  generalize setupE m s = e0 at *
  go_enter Tryz.func42, Tryz.ntmps42
  go_wp2_with fail
  refine (HCS.out _).mono ?_
  rintro e w1 ⟨rfl, hb⟩
  have HB := jD hb
  go_wp2
  go_ret
  exact ⟨by rw [HE.out]; rfl, bel_add' ((Below.refl w.heap.size w).alloc (nL _) _) HB.out (by simp)⟩
 rw [hs] at HCS
 by_cases h3 : 300 < l.length
 ·have t2 : decide (300 < (l.length : Int)) = true := decide_eq_true (by omega)
  have HE := jD (show runE m s l = 1 by unfold runE; rw [if_neg (fun h => h hs), if_pos h3])
  clear hs
  go_enter Tryz.func42, Tryz.ntmps42
  go_wp2_with fail
  refine (HCS.out _).mono ?_
  rintro e w1 ⟨rfl, hb⟩
  have HB := jD hb
  go_wp2
  go_ret
  exact ⟨by rw [HE.out]; rfl, bel_add' ((Below.refl w.heap.size w).alloc (nL _) _) HB.out (by simp)⟩
 have t2 : decide (300 < (l.length : Int)) = false := decide_eq_false (by omega)
 have HE := jD (show runE m s l = actsE l by unfold runE; rw [if_neg (fun h => h hs), if_neg h3])
 clear hs
 go_enter Tryz.func42, Tryz.ntmps42
 go_wp2_with fail
 refine (HCS.out _).mono ?_
 rintro e w1 ⟨rfl, hb⟩
 have HB := jD (bel_add' ((Below.refl w.heap.size w).alloc (nL _) _) hb (by simp))
 clear hb
 go_wp2
 go_loopw [19] (fun j wr => ∃ k : Nat, k ≤ l.length ∧ j = .int .i64 k ∧ Hid (actsE (l.take k) = 0 ∧ Below w.heap.size w wr)) (fun j _ => l.length - (intOf j).toNat)
 case atStart => exact ⟨0, by omega, rfl, rfl, HB.out⟩
 case round =>
  obtain ⟨k, hk, rfl, hR⟩ := hrel
  clear HB
  by_cases hlt : k < l.length
  ·obtain ⟨b, off, rfl, hb, l0, l1, l2⟩ := HL.out.pt hlt
   have bl := hR.out.2
   have d0 := (bl.cell (p := ⟨b, off + k * 3, none⟩) hb).trans l0
   have d1 := (bl.cell (p := ⟨b, off + k * 3 + 1, none⟩) hb).trans l1
   have d2 := (bl.cell (p := ⟨b, off + k * 3 + 2, none⟩) hb).trans l2
   have hbw : b < wr.heap.size := Nat.lt_of_lt_of_le hb bl.size
   have HT := jD (actsE_take hlt hR.out.1)
   have HO := jD (fun h => actsE_of hlt hR.out.1 h)
   have HC := jD (fun wc => checkAct_any l[k].kind l[k].c l[k].data wc)
   have HBL := jD bl
   obtain ⟨q, HQ⟩ : ∃ q, Hid (actE l[k] = q) := ⟨_, jD rfl⟩
   have hq : actE ⟨l[k].kind, l[k].c, l[k].data⟩ = q := HQ.out
   rw [hq] at HC
   rw [HQ.out] at HT HO
   generalize l[k] = x at *
   clear l0 l1 l2 bl hq HQ hR
   go_wp2_with fail
   refine (HC.out _).mono ?_
   rintro e w2 ⟨rfl, hb2⟩
   have HB2 := jD (bel_add' (HBL.out.alloc HBL.out.size (.cells #[.int .i64 x.kind, .int .i64 x.c, .string x.data] 45)) hb2 (by have := HBL.out.size; simp; omega))
   clear hb2
   by_cases hq : q = 0
   ·subst hq
    go_wp2
    go_roundw
    case rel => exact ⟨k + 1, by omega, by go_num, HT.out, HB2.out⟩
    case measure => simp [intOf]; omega
   ·have t1 : (q != 0) = true := bne_iff_ne.2 hq
    have HO2 := jD (HO.out hq)
    clear HO hq
    go_wp2
    go_ret
    exact ⟨by rw [HE.out, HO2.out]; rfl, HB2.out⟩
  ·obtain rfl : k = l.length := by omega
   have HZ := jD hR.out.1
   rw [List.take_length] at HZ
   have HBL := jD hR.out.2
   go_wp2
   go_ret
   exact ⟨by rw [HE.out, HZ.out]; rfl, HBL.out⟩
end Go.Proofs.YtpbaobmegomfpacGreatDoor
