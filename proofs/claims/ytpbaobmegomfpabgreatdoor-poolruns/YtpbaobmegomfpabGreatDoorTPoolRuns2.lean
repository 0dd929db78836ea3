/-
  Texts of the proof, one behind the other: Say9, Say10, InP, Math4, OpenW, Grid, PSetup, RefMay2, RefW, RefP, HouW.
-/
import Derived.Test.YtpbaobmegomfpabGreatDoorM16
import Derived.Test.YtpbaobmegomfpabGreatDoorTPoolRuns1
import Derived.Test.YtpbaobmegomfpabGreatDoorM15
import Derived.Test.YtpbaobmegomfpabGreatDoorM2
import Derived.Test.YtpbaobmegomfpabGreatDoorM20
import Derived.Test.YtpbaobmegomfpabGreatDoorM1
import Derived.Test.YtpbaobmegomfpabGreatDoorRows
import Derived.Deep.Slices
import Derived.Deep.SlicePairs
import Derived.SizedLaws
import Derived.ProofKit
import Derived.Lib.SmallJoins
import Derived.Test.YtpbaobmegomfpabGreatDoorM25
import Derived.Test.YtpbaobmegomfpabGreatDoorM27
import Derived.Below
import Derived.WalkKit
import Derived.WalkSpells
import Derived.WalkLawsBesides
import Derived.Lib.Hide
import Derived.Test.YtpbaobmegomfpabGreatDoorM37
import Derived.Test.YtpbaobmegomfpabGreatDoorM8
import Derived.Test.YtpbaobmegomfpabGreatDoorM19
import Derived.Test.YtpbaobmegomfpabGreatDoorM3
import Derived.Test.YtpbaobmegomfpabGreatDoorM28
import Derived.Test.YtpbaobmegomfpabGreatDoorM24
set_option linter.unusedVariables false
set_option linter.unusedSimpArgs false
set_option maxRecDepth 100000
open List renaming getElem_toArray → gTA, getElem_cons_zero → gCZ, getElem_cons_succ → gCS, setIfInBounds_toArray → sTA, set_cons_zero → sCZ, set_cons_succ → sCS
open Go.Lib renaming hid → jD
open Nat renaming le_refl → nL
namespace Go.Proofs.YtpbaobmegomfpabGreatDoor
open Go.RowKit
theorem of_long (t : ByteArray) (h : 60 < t.size) (w : World) :
  Calls Tryz.prog 31 #[.string t] w fun e w' => e = .returned (.tuple #[.agg #[.int .i64 0, .string ⟨#[]⟩, .string ⟨#[]⟩], .int .i64 1]) ∧ Below w.heap.size w w' := by
 have hd : decide (60 < (t.size : Int)) = true := decide_eq_true (by omega)
 go_enter Tryz.func31, Tryz.ntmps31
 go_wp2
 refine bodyPost_ret (v := .tuple #[.agg #[.int .i64 0, .string ⟨#[]⟩, .string ⟨#[]⟩], .int .i64 1]) (by simp [results, Tryz.results31, go_sem]) rfl ⟨rfl, ?_⟩
 repeat' (first | exact Below.refl _ _ | assumption | with_reducible refine below_drewN ?_ _ | with_reducible refine Below.drew ?_ | with_reducible refine Below.setCell ?_ ?_ _ | with_reducible refine Below.alloc ?_ ?_ _ | (simp; done) | (simp; omega))
structure LoopSt (w wr : World) (word : ByteArray) (k : Nat) : Prop where
 bel : Below w.heap.size w wr
 res : Stm wr w.heap.size 0 ⟨#[]⟩ ⟨#[]⟩
 st : Stm wr (w.heap.size + 1) (kindBefore k word) ⟨#[]⟩ ⟨#[]⟩
def ofV (t : ByteArray) : Value := if readE t = 0 then .tuple #[.agg #[.int .i64 (kindN (cutA t)), .string (cutA (cutB t)), .string (cutB (cutB t))], .int .i64 0] else .tuple #[.agg #[.int .i64 0, .string ⟨#[]⟩, .string ⟨#[]⟩], .int .i64 (readE t)]
theorem ofV_ok {t : ByteArray} (h : readE t = 0) : ofV t = .tuple #[.agg #[.int .i64 (kindN (cutA t)), .string (cutA (cutB t)), .string (cutB (cutB t))], .int .i64 0] := by unfold ofV; rw [if_pos h]
theorem ofV_no {t : ByteArray} (h : readE t ≠ 0) : ofV t = .tuple #[.agg #[.int .i64 0, .string ⟨#[]⟩, .string ⟨#[]⟩], .int .i64 (readE t)] := by unfold ofV; rw [if_neg h]
theorem ofV_form {t : ByteArray} (h : ¬ 60 < t.size) (hk : kindN (cutA t) ≠ 0) (hb : splitBad t = true) : ofV t = .tuple #[.agg #[.int .i64 0, .string ⟨#[]⟩, .string ⟨#[]⟩], .int .i64 4] := by
 have e : readE t = 4 := by rw [readE_split h (by rw [splitE_form hk hb]; decide), splitE_form hk hb]
 rw [ofV_no (by rw [e]; decide), e]
set_option maxHeartbeats 2000000 in
theorem of_main (t : ByteArray) (h : t.size ≤ 60) (hF : splitE t = 0 → FaultSaid (kindN (cutA t)) (cutA (cutB t)) (cutB (cutB t))) (w : World) :
  Calls Tryz.prog 31 #[.string t] w fun e w' => e = .returned (ofV t) ∧ Below w.heap.size w w' := by
 have hd : decide (60 < (t.size : Int)) = false := decide_eq_false (by omega)
 have hs2 : (cutB t).size ≤ maxLen := by rw [cutB_size]; unfold maxLen; omega
 have HF := jD hF
 clear hF
 go_enter Tryz.func31, Tryz.ntmps31
 go_wp2_with fail
 refine (upTo_any t _ (by unfold maxLen; omega)).mono ?_
 rintro e w1 ⟨rfl, n, rfl⟩
 go_wp2
 go_loopw [8] (fun c wr => ∃ k : Nat, 1 ≤ k ∧ k ≤ 12 ∧ c = .int .i64 k ∧ LoopSt w wr (cutA t) k) (fun c _ => 12 - (intOf c).toNat)
 case atStart =>
  refine ⟨1, by omega, by omega, rfl, ?_, ?_, ?_⟩
  ·repeat' (first | exact Below.refl _ _ | assumption | with_reducible refine below_drewN ?_ _ | with_reducible refine Below.drew ?_ | with_reducible refine Below.setCell ?_ ?_ _ | with_reducible refine Below.alloc ?_ ?_ _ | (simp; done) | (simp; omega))
  ·exact ((Stm.new w 0 _ _ _).below (below_drewN (Below.refl _ _) n)).below ((Below.refl _ _).alloc (nL _) _)
  ·rw [kindBefore_one]
   have := Stm.new ((w.alloc (Obj.cells #[.int .i64 0, .string ⟨#[]⟩, .string ⟨#[]⟩] 41)).drewN n) 0 ⟨#[]⟩ ⟨#[]⟩ 41
   simpa using this
 case round =>
  obtain ⟨k, hk1, hk2, rfl, hS⟩ := hrel
  by_cases hlt : k ≤ 11
  ·have HS := jD hS
   clear hS
   have hwl := jD (wordAt_toList k)
   by_cases hit : kindN (cutA t) = k
   ·have hb : ((wordAt k).toList == (cutA t).toList) = true := by
     rw [Lib.toList_data, Lib.toList_data, hwl.out, beq_iff_eq]; exact (kindN_word_iff hk1 hlt).1 hit
    have Hit := jD hit
    clear hit
    go_wp2_with fail
    refine (wordOf_any k _ hk1 hlt).mono ?_
    rintro e w2 ⟨rfl, hb2⟩
    have hs2 := HS.out.st.below hb2
    have c0 := hs2.c0
    have f0 := hs2.fz 0
    have HS2 := jD hs2
    clear hs2
    go_wp2
    go_roundw
    case rel =>
     refine ⟨k + 1, by omega, by omega, by go_num, ?_, ?_, ?_⟩
     ·exact (bel_trans HS.out.bel hb2).setCell (by simp) _
     ·exact (HS.out.res.below hb2).other (by omega)
     ·rw [kindBefore_hit Hit.out]; exact HS2.out.set0
    case measure => simp [intOf]; omega
   ·have hb : ((wordAt k).toList == (cutA t).toList) = false := by
     rw [Lib.toList_data, Lib.toList_data, hwl.out, beq_eq_false_iff_ne]; exact fun e => hit ((kindN_word_iff hk1 hlt).2 e)
    have Hit := jD hit
    clear hit
    go_wp2_with fail
    refine (wordOf_any k _ hk1 hlt).mono ?_
    rintro e w2 ⟨rfl, hb2⟩
    go_wp2
    go_roundw
    case rel =>
     refine ⟨k + 1, by omega, by omega, by go_num, ?_, ?_, ?_⟩
     ·exact bel_trans HS.out.bel hb2
     ·exact HS.out.res.below hb2
     ·rw [kindBefore_miss Hit.out]; exact HS.out.st.below hb2
    case measure => simp [intOf]; omega
  ·obtain rfl : k = 12 := by omega
   obtain ⟨bel, res, st⟩ := hS
   rw [kindBefore_all] at st
   have HR := jD res
   have HT := jD st
   have r0 := res.c0
   have r1 := res.c1
   have r2 := res.c2
   have rf := res.fz
   have s0 := st.c0
   have s1 := st.c1
   have s2 := st.c2
   have sf := st.fz
   have sz := st.lt
   clear res st
   by_cases hk0 : kindN (cutA t) = 0
   ·have hv := jD (show ofV t = .tuple #[.agg #[.int .i64 0, .string ⟨#[]⟩, .string ⟨#[]⟩], .int .i64 3] by
     unfold ofV
     have : readE t = 3 := by rw [readE_split (by omega) (by rw [splitE_kind hk0]; decide), splitE_kind hk0]
     rw [this, if_neg (by decide)])
    rw [hk0] at s0
    go_wp2
    refine bodyPost_ret (v := .tuple #[.agg #[.int .i64 0, .string ⟨#[]⟩, .string ⟨#[]⟩], .int .i64 3]) (by simp [results, Tryz.results31, go_sem, r0, r1, r2]) rfl ⟨by rw [hv.out], ?_⟩
    repeat' (first | exact Below.refl _ _ | assumption | with_reducible refine below_drewN ?_ _ | with_reducible refine Below.drew ?_ | with_reducible refine Below.setCell ?_ ?_ _ | with_reducible refine Below.alloc ?_ ?_ _ | (simp; done) | (simp; omega))
   ·have hk0' : ((kindN (cutA t) : Int) == 0) = false := beq_eq_false_iff_ne.2 (by omega)
    have HK0 := jD hk0
    clear hk0
    cases h1 : cutF t
    ·have hkey := jD (cutF_parts h1)
     have hE := splitE_zero HK0.out (splitBad_none h1)
     have HRd := jD (readE_check (t := t) (by omega) hE)
     have HFa := jD (HF.out hE)
     rw [hkey.out.1, hkey.out.2] at HRd HFa
     clear hE HF
     go_wp2_with fail
     refine (HFa.out _).mono ?_
     rintro e w4 ⟨rfl, hb4⟩
     have st4 := (HT.out).below hb4
     have re4 := (HR.out).below hb4
     obtain ⟨b4, z0, z1, z2, zf⟩ := st4
     obtain ⟨b5, q0, q1, q2, qf⟩ := re4
     have bel4 : Below w.heap.size w w4 := Below.trans (bel) (hb4.mono (by omega))
     clear hb4 r0 r1 r2 rf s0 s1 s2 sf
     by_cases hc : checkE (kindN (cutA t)) ⟨#[]⟩ ⟨#[]⟩ = 0
     ·have hv := jD (ofV_ok (show readE t = 0 by rw [HRd.out]; exact hc))
      rw [hc]
      clear hc
      go_wp2
      refine bodyPost_ret (v := .tuple #[.agg #[.int .i64 (kindN (cutA t)), .string ⟨#[]⟩, .string ⟨#[]⟩], .int .i64 0]) (by simp [results, Tryz.results31, go_sem, q0, q1, q2]) rfl ⟨by rw [hv.out, hkey.out.1, hkey.out.2], ?_⟩
      repeat' (first | exact Below.refl _ _ | assumption | with_reducible refine below_drewN ?_ _ | with_reducible refine Below.drew ?_ | with_reducible refine Below.setCell ?_ ?_ _ | with_reducible refine Below.alloc ?_ ?_ _ | (simp; done) | (simp; omega))
     ·have hv := jD (ofV_no (show readE t ≠ 0 by rw [HRd.out]; exact hc))
      have hv2 := jD HRd.out
      have hne : (checkE (kindN (cutA t)) ⟨#[]⟩ ⟨#[]⟩ != 0) = true := bne_iff_ne.2 hc
      generalize checkE (kindN (cutA t)) ⟨#[]⟩ ⟨#[]⟩ = c at *
      clear hc
      go_wp2
      refine bodyPost_ret (v := .tuple #[.agg #[.int .i64 0, .string ⟨#[]⟩, .string ⟨#[]⟩], .int .i64 c]) (by simp [results, Tryz.results31, go_sem, q0, q1, q2]) rfl ⟨by rw [hv.out, hv2.out], ?_⟩
      repeat' (first | exact Below.refl _ _ | assumption | with_reducible refine below_drewN ?_ _ | with_reducible refine Below.drew ?_ | with_reducible refine Below.setCell ?_ ?_ _ | with_reducible refine Below.alloc ?_ ?_ _ | (simp; done) | (simp; omega))

    ·cases h2 : (cutA (cutB t)).toList.isEmpty
     ·cases h3 : cutF (cutB t)
      ·have hE := splitE_zero HK0.out (show splitBad t = false by unfold splitBad; rw [h1, h2, h3]; rfl)
       have HRd := jD (readE_check (t := t) (by omega) hE)
       have HFa := jD (HF.out hE)
       clear hE HF
       go_wp2_with fail
       refine (upTo_any (cutB t) _ hs2).mono ?_
       rw [h3]
       rintro e w3 ⟨rfl, m, rfl⟩
       go_wp2_with fail
       refine (HFa.out _).mono ?_
       rintro e w4 ⟨rfl, hb4⟩
       have st4 := ((HT.out.below (below_drewN (Below.refl _ _) m)).set12).below hb4
       have re4 := (((HR.out.below (below_drewN (Below.refl _ _) m)).other (by omega)).other (by omega)).below hb4
       obtain ⟨b4, z0, z1, z2, zf⟩ := st4
       obtain ⟨b5, q0, q1, q2, qf⟩ := re4
       have bel4 : Below w.heap.size w w4 := Below.trans (((below_drewN bel m).setCell (by simp) _).setCell (by simp) _) (hb4.mono (by simp; omega))
       clear hb4 r0 r1 r2 rf s0 s1 s2 sf
       by_cases hc : checkE (kindN (cutA t)) (cutA (cutB t)) (cutB (cutB t)) = 0
       ·have hv := jD (ofV_ok (show readE t = 0 by rw [HRd.out]; exact hc))
        rw [hc]
        clear hc
        go_wp2
        refine bodyPost_ret (v := .tuple #[.agg #[.int .i64 (kindN (cutA t)), .string (cutA (cutB t)), .string (cutB (cutB t))], .int .i64 0]) (by simp [results, Tryz.results31, go_sem, q0, q1, q2]) rfl ⟨by rw [hv.out], ?_⟩
        repeat' (first | exact Below.refl _ _ | assumption | with_reducible refine below_drewN ?_ _ | with_reducible refine Below.drew ?_ | with_reducible refine Below.setCell ?_ ?_ _ | with_reducible refine Below.alloc ?_ ?_ _ | (simp; done) | (simp; omega))
       ·have hv := jD (ofV_no (show readE t ≠ 0 by rw [HRd.out]; exact hc))
        have hv2 := jD HRd.out
        have hne : (checkE (kindN (cutA t)) (cutA (cutB t)) (cutB (cutB t)) != 0) = true := bne_iff_ne.2 hc
        generalize checkE (kindN (cutA t)) (cutA (cutB t)) (cutB (cutB t)) = c at *
        clear hc
        go_wp2
        refine bodyPost_ret (v := .tuple #[.agg #[.int .i64 0, .string ⟨#[]⟩, .string ⟨#[]⟩], .int .i64 c]) (by simp [results, Tryz.results31, go_sem, q0, q1, q2]) rfl ⟨by rw [hv.out, hv2.out], ?_⟩
        repeat' (first | exact Below.refl _ _ | assumption | with_reducible refine below_drewN ?_ _ | with_reducible refine Below.drew ?_ | with_reducible refine Below.setCell ?_ ?_ _ | with_reducible refine Below.alloc ?_ ?_ _ | (simp; done) | (simp; omega))

      ·cases h4 : (cutB (cutB t)).toList.isEmpty
       ·have hE := splitE_zero HK0.out (show splitBad t = false by unfold splitBad; rw [h1, h2, h3, h4]; rfl)
        have HRd := jD (readE_check (t := t) (by omega) hE)
        have HFa := jD (HF.out hE)
        clear hE HF
        go_wp2_with fail
        refine (upTo_any (cutB t) _ hs2).mono ?_
        rw [h3]
        rintro e w3 ⟨rfl, m, rfl⟩
        go_wp2_with fail
        refine (HFa.out _).mono ?_
        rintro e w4 ⟨rfl, hb4⟩
        have st4 := ((HT.out.below (below_drewN (Below.refl _ _) m)).set12).below hb4
        have re4 := (((HR.out.below (below_drewN (Below.refl _ _) m)).other (by omega)).other (by omega)).below hb4
        obtain ⟨b4, z0, z1, z2, zf⟩ := st4
        obtain ⟨b5, q0, q1, q2, qf⟩ := re4
        have bel4 : Below w.heap.size w w4 := Below.trans (((below_drewN bel m).setCell (by simp) _).setCell (by simp) _) (hb4.mono (by simp; omega))
        clear hb4 r0 r1 r2 rf s0 s1 s2 sf
        by_cases hc : checkE (kindN (cutA t)) (cutA (cutB t)) (cutB (cutB t)) = 0
        ·have hv := jD (ofV_ok (show readE t = 0 by rw [HRd.out]; exact hc))
         rw [hc]
         clear hc
         go_wp2
         refine bodyPost_ret (v := .tuple #[.agg #[.int .i64 (kindN (cutA t)), .string (cutA (cutB t)), .string (cutB (cutB t))], .int .i64 0]) (by simp [results, Tryz.results31, go_sem, q0, q1, q2]) rfl ⟨by rw [hv.out], ?_⟩
         repeat' (first | exact Below.refl _ _ | assumption | with_reducible refine below_drewN ?_ _ | with_reducible refine Below.drew ?_ | with_reducible refine Below.setCell ?_ ?_ _ | with_reducible refine Below.alloc ?_ ?_ _ | (simp; done) | (simp; omega))
        ·have hv := jD (ofV_no (show readE t ≠ 0 by rw [HRd.out]; exact hc))
         have hv2 := jD HRd.out
         have hne : (checkE (kindN (cutA t)) (cutA (cutB t)) (cutB (cutB t)) != 0) = true := bne_iff_ne.2 hc
         generalize checkE (kindN (cutA t)) (cutA (cutB t)) (cutB (cutB t)) = c at *
         clear hc
         go_wp2
         refine bodyPost_ret (v := .tuple #[.agg #[.int .i64 0, .string ⟨#[]⟩, .string ⟨#[]⟩], .int .i64 c]) (by simp [results, Tryz.results31, go_sem, q0, q1, q2]) rfl ⟨by rw [hv.out, hv2.out], ?_⟩
         repeat' (first | exact Below.refl _ _ | assumption | with_reducible refine below_drewN ?_ _ | with_reducible refine Below.drew ?_ | with_reducible refine Below.setCell ?_ ?_ _ | with_reducible refine Below.alloc ?_ ?_ _ | (simp; done) | (simp; omega))

       ·have hv := jD (ofV_form (by omega) HK0.out (show splitBad t = true by unfold splitBad; rw [h1, h2, h3, h4]; rfl))
        go_wp2_with fail
        refine (upTo_any (cutB t) _ hs2).mono ?_
        rw [h3]
        rintro e w3 ⟨rfl, m, rfl⟩
        go_wp2
        refine bodyPost_ret (v := .tuple #[.agg #[.int .i64 0, .string ⟨#[]⟩, .string ⟨#[]⟩], .int .i64 4]) (by simp [results, Tryz.results31, go_sem, r0, r1, r2]) rfl ⟨by rw [hv.out], ?_⟩
        repeat' (first | exact Below.refl _ _ | assumption | with_reducible refine below_drewN ?_ _ | with_reducible refine Below.drew ?_ | with_reducible refine Below.setCell ?_ ?_ _ | with_reducible refine Below.alloc ?_ ?_ _ | (simp; done) | (simp; omega))

     ·have hv := jD (ofV_form (by omega) HK0.out (show splitBad t = true by unfold splitBad; rw [h1, h2]; rfl))
      go_wp2_with fail
      refine (upTo_any (cutB t) _ hs2).mono ?_
      rintro e w3 ⟨rfl, m, rfl⟩
      go_wp2
      refine bodyPost_ret (v := .tuple #[.agg #[.int .i64 0, .string ⟨#[]⟩, .string ⟨#[]⟩], .int .i64 4]) (by simp [results, Tryz.results31, go_sem, r0, r1, r2]) rfl ⟨by rw [hv.out], ?_⟩
      repeat' (first | exact Below.refl _ _ | assumption | with_reducible refine below_drewN ?_ _ | with_reducible refine Below.drew ?_ | with_reducible refine Below.setCell ?_ ?_ _ | with_reducible refine Below.alloc ?_ ?_ _ | (simp; done) | (simp; omega))

theorem wordL_one : ∀ k, k ≤ 11 → 1 ≤ k → 1 ≤ (wordL k).length := by decide
theorem kind_one {t : ByteArray} (h : kindN (cutA t) ≠ 0) : 1 ≤ t.size := by
 have h1 := kindN_word (s := cutA t) (by omega)
 have h2 := wordL_one (kindN (cutA t)) (kindN_le _) (by omega)
 rw [h1] at h2
 have h3 : (cutA t).data.toList.length = (cutA t).size := by simp
 have := cutA_size t
 have := cutI_le t
 omega
theorem of_all (n : Nat) : ∀ t : ByteArray, t.size ≤ n → OfSaid t := by
 induction n with
 | zero =>
  intro t ht
  have h := of_main t (by omega) (fun hE => absurd (kind_one (splitE_ok hE).1) (by omega))
  exact ⟨fun hr w => (h w).mono fun _ _ ⟨he, hb⟩ => ⟨by rw [he, ofV_ok hr], hb⟩, fun hr w => (h w).mono fun _ _ ⟨he, hb⟩ => ⟨by rw [he, ofV_no hr], hb⟩⟩
 | succ n ih =>
  intro t ht
  by_cases hl : 60 < t.size
  ·refine ⟨fun hr => ?_, fun hr w => ?_⟩
   ·rw [readE_long hl] at hr; cases hr
   ·rw [readE_long hl]; exact of_long t hl w
  ·have h := of_main t (by omega) (fun hE => by
    have h1 := kind_one (splitE_ok hE).1
    have h2 := cutB_size t
    have h3 := cutB_size (cutB t)
    have h4 := cutA_size (cutB t)
    have h5 := cutI_le (cutB t)
    exact fault_of _ _ _ (by unfold maxLen; omega) (by unfold maxLen; omega) (ih _ (by omega)))
   exact ⟨fun hr w => (h w).mono fun _ _ ⟨he, hb⟩ => ⟨by rw [he, ofV_ok hr], hb⟩, fun hr w => (h w).mono fun _ _ ⟨he, hb⟩ => ⟨by rw [he, ofV_no hr], hb⟩⟩
theorem own_inP {w : World} {base t : Nat} {v : Value} {l : PL} (h : w.ownsRow base t 2 v l.length (flat l)) : InP (fun b => base ≤ b ∧ b < w.heap.size) v l := fun hn b off n c e => by
 obtain ⟨hl, h1 | ⟨g, cap, cur, hv, hg, hh, _⟩⟩ := h
 ·rw [h1.1] at e; injection e with e; cases e
 ·rw [hv] at e
  injection e with e
  injection e with e
  injection e with e
  rw [← e]
  exact ⟨hg, (Array.getElem?_eq_some_iff.1 hh).1⟩
theorem app_empty {a x : ByteArray} (h : x.toList.isEmpty = true) : a ++ x = a := by
 rw [Lib.toList_data, List.isEmpty_iff] at h
 apply ba_ext
 rw [ByteArray.data_append, Array.toList_append, h, List.append_nil]
end Go.Proofs.YtpbaobmegomfpabGreatDoor
namespace Go.Proofs.YtpbaobmegomfpabGreatDoor
open Go.RowKit Go.ChangeShapes Go.WideShapes Go.Deep Go.Joins
theorem weightsAll_mem {H : Type} {P : Program} {e : TypeId} {d : DataW H} {n : Nat} : ∀ {l : List (DataW H)}, d ∈ l → n ∈ d.weights P e → n ∈ DataW.weightsAll P e l
 | x :: l, hd, hn => by
  simp only [DataW.weightsAll, List.mem_append]
  rcases List.mem_cons.1 hd with rfl | h
  ·exact .inl hn
  ·exact .inr (weightsAll_mem h hn)
section
variable {H : Type} {enc : TypeId × Value → H} {w : World} {base : Nat} {spare : Nat → Bool} {held : Bool}
end
section
variable {H : Type} {enc : TypeId × Value → H} {w : World} {base : Nat} {spare : Nat → Bool} {held : Bool}
end
end Go.Proofs.YtpbaobmegomfpabGreatDoor
namespace Go.Proofs.YtpbaobmegomfpabGreatDoor
open Go Go.RowKit
theorem zs_but {lo : Nat} {t u S n : Nat} {zc : Array Value} {x : Option Nat} {w w' : World} {xs : List Value} (h : zs lo t zc x w) (hS : RowTo w S u n xs) (hu : u ≠ t) (hk : ∀ b, b < w.heap.size → b ≠ S → w'.heap[b]? = w.heap[b]?) : zs lo t zc x w' := fun b e => by
 have := h b e
 refine ⟨this.1, (hk b (Array.getElem?_eq_some_iff.1 this.2).1 fun hbS => ?_).trans this.2⟩
 obtain ⟨cur, hh, _⟩ := hS
 rw [hbS, hh] at this
 have e := this.2
 injection e with e
 injection e with _ e _
 exact hu e
section
variable {P : Program} {ops : Array Oper} {Q : Exit → Go.Act → World → Prop} {md : Region.Mode} {S : World → Prop} {z : Nat}
variable {C : Nat} {cop dst : Nat → Nat} {p q dp dq : Nat} {tp tq : TypeId} {zp zq : Array Value} {Lst : Nat → Bool → Bool → Array Bool} {Lst' : Bool → Bool → Array Bool}
end
end Go.Proofs.YtpbaobmegomfpabGreatDoor
namespace Go.Proofs.YtpbaobmegomfpabGreatDoor
open Go.RowKit
theorem inN_any (n a b : Int) (w : World) : Calls Tryz.prog 28 #[.int .i64 n, .int .i64 a, .int .i64 b] w fun e w' => e = .returned (.bool (decide (a ≤ n) && decide (n ≤ b))) ∧ w = w' := by
 by_cases h : a ≤ n
 ·have h1 : decide (a ≤ n) = true := decide_eq_true h
  go_enter Tryz.func28, Tryz.ntmps28
  go_wp2
  go_ret
  exact ⟨by rw [h1]; simp, rfl⟩
 ·have h1 : decide (a ≤ n) = false := decide_eq_false h
  go_enter Tryz.func28, Tryz.ntmps28
  go_wp2
  go_ret
  exact ⟨rfl, rfl⟩
set_option maxHeartbeats 1000000 in
theorem setupFault_any (m s : Int) (w : World) : Calls Tryz.prog 27 #[.agg #[.int .i64 m, .int .i64 s]] w fun e w' => e = .returned (.int .i64 (setupE m s)) ∧ Below w.heap.size w w' := by
 by_cases h1 : 1 ≤ m ∧ m ≤ 3
 ·have t1 : (decide (1 ≤ m) && decide (m ≤ 3)) = true := by simp [h1]
  by_cases h2 : 1 ≤ s ∧ s ≤ 4
  ·have t2 : (decide (1 ≤ s) && decide (s ≤ 4)) = true := by simp [h2]
   have HE := jD (show setupE m s = 0 by unfold setupE; rw [if_neg (by omega), if_neg (by omega)])
   go_enter Tryz.func27, Tryz.ntmps27
   go_wp2_with fail
   refine (inN_any m 1 3 _).mono ?_
   rw [t1]
   rintro e w1 ⟨rfl, rfl⟩
   go_wp2_with fail
   refine (inN_any s 1 4 _).mono ?_
   rw [t2]
   rintro e w1 ⟨rfl, rfl⟩
   go_wp2
   go_ret
   refine ⟨by rw [HE.out]; rfl, ?_⟩
   repeat' (first | exact Below.refl _ _ | assumption | with_reducible refine below_drewN ?_ _ | with_reducible refine Below.drew ?_ | with_reducible refine Below.setCell ?_ ?_ _ | with_reducible refine Below.alloc ?_ ?_ _ | (simp; done) | (simp; omega))
  ·have t2 : (decide (1 ≤ s) && decide (s ≤ 4)) = false := by rw [Bool.and_eq_false_iff, decide_eq_false_iff_not, decide_eq_false_iff_not]; omega
   have HE := jD (show setupE m s = 2 by unfold setupE; rw [if_neg (by omega), if_pos (by omega)])
   go_enter Tryz.func27, Tryz.ntmps27
   go_wp2_with fail
   refine (inN_any m 1 3 _).mono ?_
   rw [t1]
   rintro e w1 ⟨rfl, rfl⟩
   go_wp2_with fail
   refine (inN_any s 1 4 _).mono ?_
   rw [t2]
   rintro e w1 ⟨rfl, rfl⟩
   go_wp2
   go_ret
   refine ⟨by rw [HE.out]; rfl, ?_⟩
   repeat' (first | exact Below.refl _ _ | assumption | with_reducible refine below_drewN ?_ _ | with_reducible refine Below.drew ?_ | with_reducible refine Below.setCell ?_ ?_ _ | with_reducible refine Below.alloc ?_ ?_ _ | (simp; done) | (simp; omega))
 ·have t1 : (decide (1 ≤ m) && decide (m ≤ 3)) = false := by rw [Bool.and_eq_false_iff, decide_eq_false_iff_not, decide_eq_false_iff_not]; omega
  have HE := jD (show setupE m s = 3 by unfold setupE; rw [if_pos (by omega)])
  go_enter Tryz.func27, Tryz.ntmps27
  go_wp2_with fail
  refine (inN_any m 1 3 _).mono ?_
  rw [t1]
  rintro e w1 ⟨rfl, rfl⟩
  go_wp2
  go_ret
  refine ⟨by rw [HE.out]; rfl, ?_⟩
  repeat' (first | exact Below.refl _ _ | assumption | with_reducible refine below_drewN ?_ _ | with_reducible refine Below.drew ?_ | with_reducible refine Below.setCell ?_ ?_ _ | with_reducible refine Below.alloc ?_ ?_ _ | (simp; done) | (simp; omega))
theorem own_form {w : World} {base t n : Nat} {v : Value} {xs : List Value} (h : w.ownsRow base t 2 v n xs) : ∃ A c, v = .slice A n c := by
 obtain ⟨_, ⟨hv, hn⟩ | ⟨g, cap, cur, hv, _⟩⟩ := h
 ·exact ⟨none, 0, by rw [hv, hn]⟩
 ·exact ⟨_, _, hv⟩
structure SesP (w : World) (P : Nat → Prop) (B b o : Nat) (s : Sess) (v1 v2 v3 v4 : Value) : Prop where
 core : Ses w B b o s v1 v2 v3 v4
 p1 : InP P v1 s.set
 p2 : InP P v2 s.prep
 p3 : InP P v3 s.sav
 p4 : InP P v4 s.wr
theorem no_any (t : ByteArray) (w : World) :
  Calls Tryz.prog 123 #[.string t] w fun e w' => e = .returned (ansV 4 t) ∧ Below w.heap.size w w' := by
 go_enter Tryz.func123, Tryz.ntmps123
 go_wp2
 refine bodyPost_ret (v := ansV 4 t) (by simp [results, Tryz.results123, go_sem, ansV]) rfl ⟨rfl, ?_⟩
 repeat' (first | exact Below.refl _ _ | assumption | with_reducible refine below_drewN ?_ _ | with_reducible refine Below.drew ?_ | with_reducible refine Below.setCell ?_ ?_ _ | with_reducible refine Below.alloc ?_ ?_ _ | (simp; done) | (simp; omega))
theorem found_any (o : Option ByteArray) (w : World) :
  Calls Tryz.prog 126 #[.string (o.getD ⟨#[]⟩), .bool o.isSome] w fun e w' => e = .returned (ansV (fnd' o).kind (fnd' o).text) ∧ Below w.heap.size w w' := by
 cases o with
 | none =>
  go_enter Tryz.func126, Tryz.ntmps126
  go_wp2
  refine bodyPost_ret (v := ansV 3 ⟨#[]⟩) (by simp [results, Tryz.results126, go_sem, ansV]) rfl ⟨rfl, ?_⟩
  repeat' (first | exact Below.refl _ _ | assumption | with_reducible refine below_drewN ?_ _ | with_reducible refine Below.drew ?_ | with_reducible refine Below.setCell ?_ ?_ _ | with_reducible refine Below.alloc ?_ ?_ _ | (simp; done) | (simp; omega))
 | some v =>
  go_enter Tryz.func126, Tryz.ntmps126
  go_wp2
  refine bodyPost_ret (v := ansV 2 v) (by simp [results, Tryz.results126, go_sem, ansV]) rfl ⟨rfl, ?_⟩
  repeat' (first | exact Below.refl _ _ | assumption | with_reducible refine below_drewN ?_ _ | with_reducible refine Below.drew ?_ | with_reducible refine Below.setCell ?_ ?_ _ | with_reducible refine Below.alloc ?_ ?_ _ | (simp; done) | (simp; omega))
structure DidAt (w w1 : World) (r s : Value) (k : Int) (key val : ByteArray) (st : Int) (v1 v2 v3 v4 : Value) : Prop where
 X : RowTo w1 w.heap.size 39 2 [r, s]
 Y : RowTo w1 (w.heap.size + 1) 41 3 [.int .i64 k, .string key, .string val]
 R : RowTo w1 (w.heap.size + 1 + 1) 39 2 [.slice none 0 0, .slice none 0 0]
 A : RowTo w1 (w.heap.size + 1 + 1 + 1) 46 3 [.int .i64 0, .string ⟨#[]⟩, .int .i64 0]
 Z : RowTo w1 (w.heap.size + 1 + 1 + 1 + 1) 115 5 [.int .i64 st, v1, v2, v3, v4]
 O : RowTo w1 (w.heap.size + 1 + 1 + 1 + 1 + 1) 46 3 [.int .i64 1, .string ⟨#[]⟩, .int .i64 0]
 bel : Below w.heap.size w w1
 size : w.heap.size + 1 + 1 + 1 + 1 + 1 + 1 ≤ w1.heap.size
theorem DidAt.below {w w1 w2 : World} {r s : Value} {k : Int} {key val : ByteArray} {st : Int} {v1 v2 v3 v4 : Value} (h : DidAt w w1 r s k key val st v1 v2 v3 v4) (hb : Below w1.heap.size w1 w2) : DidAt w w2 r s k key val st v1 v2 v3 v4 :=
 ⟨h.X.below hb h.X.lt, h.Y.below hb h.Y.lt, h.R.below hb h.R.lt, h.A.below hb h.A.lt, h.Z.below hb h.Z.lt, h.O.below hb h.O.lt, bel_add' h.bel hb h.bel.size, Nat.le_trans h.size hb.size⟩
def didW0 (w : World) (r s : Value) (k : Int) (key val : ByteArray) (st : Int) (v1 v2 v3 v4 : Value) : World :=
 ((doW0 w r s k key val).alloc (.cells #[.int .i64 st, v1, v2, v3, v4] 115)).alloc (.cells #[.int .i64 1, .string ⟨#[]⟩, .int .i64 0] 46)
theorem doW0_size (w : World) (r s : Value) (k : Int) (key val : ByteArray) : (doW0 w r s k key val).heap.size = w.heap.size + 1 + 1 + 1 + 1 := by simp [doW0]
theorem didAt0 (w : World) (r s : Value) (k : Int) (key val : ByteArray) (st : Int) (v1 v2 v3 v4 : Value) : DidAt w (didW0 w r s k key val st v1 v2 v3 v4) r s k key val st v1 v2 v3 v4 := by
 have h0 := doAt0 w r s k key val
 have hz := doW0_size w r s k key val
 have e1 : ((doW0 w r s k key val).alloc (.cells #[.int .i64 st, v1, v2, v3, v4] 115)).heap.size = w.heap.size + 1 + 1 + 1 + 1 + 1 := by rw [World.size_alloc, hz]
 unfold didW0
 have hZ := (RowTo.whole (doW0 w r s k key val) #[.int .i64 st, v1, v2, v3, v4] 115).alloc (.cells #[.int .i64 1, .string ⟨#[]⟩, .int .i64 0] 46)
 have hO := RowTo.whole ((doW0 w r s k key val).alloc (.cells #[.int .i64 st, v1, v2, v3, v4] 115)) #[.int .i64 1, .string ⟨#[]⟩, .int .i64 0] 46
 rw [hz] at hZ
 rw [e1] at hO
 refine ⟨(h0.X.alloc _).alloc _, (h0.Y.alloc _).alloc _, (h0.R.alloc _).alloc _, (h0.A.alloc _).alloc _, hZ, hO, (h0.bel.alloc (by rw [hz]; omega) _).alloc (by rw [e1]; omega) _, by rw [World.size_alloc, e1]; exact nL _⟩
structure RefP (Q : Nat → Prop) (w : World) (S cap : Nat) (r : Value) (W : Wd) : Prop where
 rows : Lst w w.heap.size r W.rows
 rin : InP Q r W.rows
 blk : RowTo w S 115 (cap * 5) []
 len : W.ss.length ≤ cap
 bytes : W.ss.length * 104 ≤ 140737488351232
 ses : ∀ i (h : i < W.ss.length), ∃ v1 v2 v3 v4, SesP w Q w.heap.size S (i * 5) W.ss[i] v1 v2 v3 v4
section
variable {Q : Nat → Prop} {w w' : World} {S cap : Nat} {r : Value} {W : Wd}
theorem RefP.wld (h : RefP Q w S cap r W) : Wld w w.heap.size r (slc S W.ss.length cap) W := by
 refine ⟨h.rows, ⟨_, _, rfl, h.len⟩, h.bytes, fun _ => ⟨S, 0, cap, rfl, h.blk.lt, fun i hi => ?_⟩⟩
 obtain ⟨v1, v2, v3, v4, hs⟩ := h.ses i hi
 rw [Nat.zero_add]
 exact ⟨v1, v2, v3, v4, hs.core⟩
theorem RefP.mono {Q' : Nat → Prop} (h : RefP Q w S cap r W) (hq : ∀ b, Q b → Q' b) : RefP Q' w S cap r W := by
 refine ⟨h.rows, h.rin.mono hq, h.blk, h.len, h.bytes, fun i hi => ?_⟩
 obtain ⟨v1, v2, v3, v4, q⟩ := h.ses i hi
 exact ⟨v1, v2, v3, v4, q.core, q.p1.mono hq, q.p2.mono hq, q.p3.mono hq, q.p4.mono hq⟩
theorem RefP.keep (h : RefP Q w S cap r W) (hs : w.heap.size ≤ w'.heap.size) (hS : w'.heap[S]? = w.heap[S]?) (hk : ∀ b, Q b → b < w.heap.size → w'.heap[b]? = w.heap[b]?) : RefP Q w' S cap r W := by
 have ll : ∀ {v : Value} {l : PL}, Lst w w.heap.size v l → InP Q v l → Lst w' w'.heap.size v l := fun a b => a.keepP (own_lt a b) (fun x hx => hk x hx.1 hx.2) (fun x hx => Nat.lt_of_lt_of_le hx.2 hs)
 have cs : ∀ j, w'.cell? ⟨S, j, none⟩ = w.cell? ⟨S, j, none⟩ := fun j => World.cell?_of_block hS
 refine ⟨ll h.rows h.rin, h.rin, h.blk.same hS, h.len, h.bytes, fun i hi => ?_⟩
 obtain ⟨v1, v2, v3, v4, q⟩ := h.ses i hi
 exact ⟨v1, v2, v3, v4, ⟨(cs _).trans q.core.c0, (cs _).trans q.core.c1, (cs _).trans q.core.c2, (cs _).trans q.core.c3, (cs _).trans q.core.c4, ll q.core.l1 q.p1, ll q.core.l2 q.p2, ll q.core.l3 q.p3, ll q.core.l4 q.p4⟩, q.p1, q.p2, q.p3, q.p4⟩
theorem RefP.below (h : RefP Q w S cap r W) (hb : Below w.heap.size w w') : RefP Q w' S cap r W := h.keep hb.size (hb.block S h.blk.lt) fun b _ hlt => hb.block b hlt
theorem RefP.small (h : RefP Q w S cap r W) : RefP (fun b => Q b ∧ b < w.heap.size) w S cap r W := by
 refine ⟨h.rows, own_lt h.rows h.rin, h.blk, h.len, h.bytes, fun i hi => ?_⟩
 obtain ⟨v1, v2, v3, v4, q⟩ := h.ses i hi
 exact ⟨v1, v2, v3, v4, q.core, own_lt q.core.l1 q.p1, own_lt q.core.l2 q.p2, own_lt q.core.l3 q.p3, own_lt q.core.l4 q.p4⟩
theorem RefP.offN {R : Nat} (h : RefP Q w S cap r W) (hS : R ≠ S) (hR : NoTwo w R) (hs : w'.heap.size = w.heap.size) (hk : ∀ b, b ≠ R → w'.heap[b]? = w.heap[b]?) : RefP Q w' S cap r W := by
 refine ⟨by rw [hs]; exact h.rows.offN hR hk, h.rin, h.blk.same (hk S (fun e => hS e.symm)), h.len, h.bytes, fun i hi => ?_⟩
 obtain ⟨v1, v2, v3, v4, q⟩ := h.ses i hi
 have cs : ∀ j, w'.cell? ⟨S, j, none⟩ = w.cell? ⟨S, j, none⟩ := fun j => World.cell?_of_block (hk S (fun e => hS e.symm))
 rw [hs]
 exact ⟨v1, v2, v3, v4, ⟨(cs _).trans q.core.c0, (cs _).trans q.core.c1, (cs _).trans q.core.c2, (cs _).trans q.core.c3, (cs _).trans q.core.c4, q.core.l1.offN hR hk, q.core.l2.offN hR hk, q.core.l3.offN hR hk, q.core.l4.offN hR hk⟩, q.p1, q.p2, q.p3, q.p4⟩
theorem RefP.put {w6 : World} {r' : Value} {rows' : PL} {s' : Sess} {v1 v2 v3 v4 : Value} {i : Nat} (h : RefP Q w S cap r W) (hi : i < W.ss.length) (hQ : ∀ b, Q b → b ≠ S) {T : Nat → Prop} (hz : w'.heap.size = w6.heap.size) (hold : ∀ b, Q b → b < w.heap.size → w'.heap[b]? = w.heap[b]?) (hk : ∀ b, T b → w'.heap[b]? = w6.heap[b]?) (b6 : Below w.heap.size w w6)
  (hS : w'.heap[S]? = (set5 w6 S (i * 5) (.int .i64 s'.st) v1 v2 v3 v4).heap[S]?)
  (l0 : Lst w6 w6.heap.size r' rows') (l1 : Lst w6 w6.heap.size v1 s'.set) (l2 : Lst w6 w6.heap.size v2 s'.prep) (l3 : Lst w6 w6.heap.size v3 s'.sav) (l4 : Lst w6 w6.heap.size v4 s'.wr)
  (q0 : InP (fun b => Q b ∧ T b) r' rows') (q1 : InP (fun b => Q b ∧ T b) v1 s'.set) (q2 : InP (fun b => Q b ∧ T b) v2 s'.prep) (q3 : InP (fun b => Q b ∧ T b) v3 s'.sav) (q4 : InP (fun b => Q b ∧ T b) v4 s'.wr) : RefP Q w' S cap r' ⟨rows', W.ss.set i s'⟩ := by
 have hl : (W.ss.set i s').length = W.ss.length := List.length_set
 have hSw := h.blk.lt
 have hblk := h.blk.below b6 hSw
 have hlen := h.len
 have cS : ∀ j, w'.cell? ⟨S, j, none⟩ = (set5 w6 S (i * 5) (.int .i64 s'.st) v1 v2 v3 v4).cell? ⟨S, j, none⟩ := fun j => World.cell?_of_block hS
 have h5 := set5_cells (a0 := .int .i64 s'.st) (a1 := v1) (a2 := v2) (a3 := v3) (a4 := v4) hblk (o := i * 5) (by omega)
 have hsz : w.heap.size ≤ w'.heap.size := by rw [hz]; exact b6.size
 have ll : ∀ {v : Value} {l : PL}, Lst w6 w6.heap.size v l → InP (fun b => Q b ∧ T b) v l → Lst w' w'.heap.size v l := fun x y => x.keepP (own_lt x y) (fun c hc => hk c hc.1.2) (fun c hc => by rw [hz]; exact hc.2)
 have lo : ∀ {v : Value} {l : PL}, Lst w w.heap.size v l → InP Q v l → Lst w' w'.heap.size v l := fun a b => a.keepP (own_lt a b) (fun x hx => hold x hx.1 hx.2) (fun x hx => Nat.lt_of_lt_of_le hx.2 hsz)
 have f1 : ∀ {v : Value} {l : PL}, InP (fun b => Q b ∧ T b) v l → InP Q v l := fun x => x.mono fun _ hx => hx.1
 refine ⟨ll l0 q0, f1 q0, (set5_row hblk).same hS, by rw [hl]; exact h.len, by rw [hl]; exact h.bytes, fun k hk' => ?_⟩
 rw [hl] at hk'
 by_cases e : i = k
 ·subst e
  simp only [List.getElem_set_self]
  exact ⟨v1, v2, v3, v4, ⟨(cS _).trans h5.1, (cS _).trans h5.2.1, (cS _).trans h5.2.2.1, (cS _).trans h5.2.2.2.1, (cS _).trans h5.2.2.2.2, ll l1 q1, ll l2 q2, ll l3 q3, ll l4 q4⟩, f1 q1, f1 q2, f1 q3, f1 q4⟩
 ·simp only [List.getElem_set_ne e]
  obtain ⟨u1, u2, u3, u4, z⟩ := h.ses k hk'
  have c : ∀ j, j < 5 → w'.cell? ⟨S, k * 5 + j, none⟩ = w.cell? ⟨S, k * 5 + j, none⟩ := fun j hj => (cS _).trans ((set5_off (by omega)).trans (b6.cell (p := ⟨S, k * 5 + j, none⟩) hSw))
  exact ⟨u1, u2, u3, u4, ⟨(c 0 (by omega)).trans z.core.c0, (c 1 (by omega)).trans z.core.c1, (c 2 (by omega)).trans z.core.c2, (c 3 (by omega)).trans z.core.c3, (c 4 (by omega)).trans z.core.c4, lo z.core.l1 z.p1, lo z.core.l2 z.p2, lo z.core.l3 z.p3, lo z.core.l4 z.p4⟩, z.p1, z.p2, z.p3, z.p4⟩
end
def OnlyT (S : Nat) (w w' : World) : Prop := Only S w w' ∧ w'.os = w.os ∧ w'.tape = w.tape ∧ w'.output = w.output
section
variable {S : Nat} {w w1 w2 : World}
theorem OnlyT.trans (h : OnlyT S w w1) (h2 : OnlyT S w1 w2) : OnlyT S w w2 := ⟨h.1.trans h2.1, h2.2.1.trans h.2.1, h2.2.2.1.trans h.2.2.1, h2.2.2.2.trans h.2.2.2⟩
theorem OnlyT.of (h : Below w.heap.size w w1) : OnlyT S w w1 := ⟨Only.below h, h.os, h.tape, h.output⟩
theorem OnlyT.new {R : Nat} (h : OnlyT S w w1) (hR : w.heap.size ≤ R) (j : Nat) (v : Value) : OnlyT S w (w1.setCell ⟨R, j, none⟩ v) := ⟨h.1.new hR j v, h.2.1, h.2.2.1, h.2.2.2⟩
theorem OnlyT.below {B : Nat} (h : OnlyT S w w1) (hS : B ≤ S) (hB : B ≤ w.heap.size) : Below B w w1 := ⟨h.2.1, h.2.2.1, h.2.2.2, h.1.1, fun b hb => h.1.2 b (by omega) (by omega)⟩
end
def DidZ (Q : Nat → Prop) (w : World) (S cap n : Nat) (R : Wd × Ans) (e : Ending) (w' : World) : Prop :=
 ∃ r', e = .returned (.tuple #[.agg #[r', slc S n cap], ansV R.2.kind R.2.text]) ∧ RefP Q w' S cap r' R.1 ∧ OnlyT S w w'
theorem DidZ.drew {Q : Nat → Prop} {w w' : World} {S cap n : Nat} {R : Wd × Ans} {e : Ending} (h : DidZ Q w S cap n R e w') : DidZ Q w S cap n R e w'.drew := by
 obtain ⟨r', e, h1, h2⟩ := h
 exact ⟨r', e, h1.below ((Below.refl _ _).drew), h2.trans (.of ((Below.refl _ _).drew))⟩
structure AtE (Q : Nat → Prop) (w w7 : World) (S cap n : Nat) (rv : Value) (W' : Wd) : Prop where
 X : RowTo w7 w.heap.size 39 2 [rv, slc S n cap]
 R : RowTo w7 (w.heap.size + 1 + 1) 39 2 [.slice none 0 0, .slice none 0 0]
 A : RowTo w7 (w.heap.size + 1 + 1 + 1) 46 3 [.int .i64 0, .string ⟨#[]⟩, .int .i64 0]
 ref : RefP Q w7 S cap rv W'
 only : OnlyT S w w7
 Sw : S < w.heap.size
section
variable {Q : Nat → Prop} {w w7 w8 : World} {S cap n : Nat} {rv : Value} {W' : Wd}
theorem AtE.below (h : AtE Q w w7 S cap n rv W') (hb : Below w7.heap.size w7 w8) : AtE Q w w8 S cap n rv W' :=
 ⟨h.X.below hb h.X.lt, h.R.below hb h.R.lt, h.A.below hb h.A.lt, h.ref.below hb, h.only.trans (.of hb), h.Sw⟩
theorem fin_z {R : Wd × Ans} (hR : RowTo w7 (w.heap.size + 1 + 1) 39 2 [.slice none 0 0, .slice none 0 0]) (hA : RowTo w7 (w.heap.size + 1 + 1 + 1) 46 3 [.int .i64 0, .string ⟨#[]⟩, .int .i64 0]) (hr : RefP Q w7 S cap rv R.1) (ho : OnlyT S w w7) (hSw : S < w.heap.size) (x1 x2 x3 x4 x5 : Value) :
  DidZ Q w S cap n R (.returned (.tuple #[.agg #[rv, slc S n cap], ansV R.2.kind R.2.text])) (((((w7.setCell ⟨w.heap.size + 1 + 1, 0, none⟩ x1).setCell ⟨w.heap.size + 1 + 1, 1, none⟩ x2).setCell ⟨w.heap.size + 1 + 1 + 1, 0, none⟩ x3).setCell ⟨w.heap.size + 1 + 1 + 1, 1, none⟩ x4).setCell ⟨w.heap.size + 1 + 1 + 1, 2, none⟩ x5) := by
 have e1 := hr.offN (R := w.heap.size + 1 + 1) (by omega) (noTwo_world hR) (w' := (w7.setCell ⟨w.heap.size + 1 + 1, 0, none⟩ x1).setCell ⟨w.heap.size + 1 + 1, 1, none⟩ x2) (by simp [World.setCell]) (fun b hb => by rw [Below.heap_setCell _ _ _ _ hb, Below.heap_setCell _ _ _ _ hb])
 have A1 := (hA.other (p := ⟨w.heap.size + 1 + 1, 0, none⟩) (by show w.heap.size + 1 + 1 ≠ _; omega) x1).other (p := ⟨w.heap.size + 1 + 1, 1, none⟩) (by show w.heap.size + 1 + 1 ≠ _; omega) x2
 have e2 := e1.offN (R := w.heap.size + 1 + 1 + 1) (by omega) (noTwo_answer A1) (w' := ((((w7.setCell ⟨w.heap.size + 1 + 1, 0, none⟩ x1).setCell ⟨w.heap.size + 1 + 1, 1, none⟩ x2).setCell ⟨w.heap.size + 1 + 1 + 1, 0, none⟩ x3).setCell ⟨w.heap.size + 1 + 1 + 1, 1, none⟩ x4).setCell ⟨w.heap.size + 1 + 1 + 1, 2, none⟩ x5) (by simp [World.setCell]) (fun b hb => by rw [Below.heap_setCell _ _ _ _ hb, Below.heap_setCell _ _ _ _ hb, Below.heap_setCell _ _ _ _ hb])
 exact ⟨_, rfl, e2, ((((ho.new (by omega) 0 x1).new (by omega) 1 x2).new (by omega) 0 x3).new (by omega) 1 x4).new (by omega) 2 x5⟩
theorem AtE.fin (h : AtE Q w w7 S cap n rv W') (a : Ans) (x1 x2 x3 x4 x5 : Value) :
  DidZ Q w S cap n (W', a) (.returned (.tuple #[.agg #[rv, slc S n cap], ansV a.kind a.text])) (((((w7.setCell ⟨w.heap.size + 1 + 1, 0, none⟩ x1).setCell ⟨w.heap.size + 1 + 1, 1, none⟩ x2).setCell ⟨w.heap.size + 1 + 1 + 1, 0, none⟩ x3).setCell ⟨w.heap.size + 1 + 1 + 1, 1, none⟩ x4).setCell ⟨w.heap.size + 1 + 1 + 1, 2, none⟩ x5) := fin_z (n := n) (R := (W', a)) h.R h.A h.ref h.only h.Sw x1 x2 x3 x4 x5
end
section
variable {Q : Nat → Prop} {w w6 wz : World} {S cap n : Nat} {r rv sv : Value} {W : Wd} {k : Int} {key val : ByteArray} {st : Int} {v1 v2 v3 v4 : Value}
theorem atV_eq (o : Option ByteArray) : atV o = .tuple #[.string (o.getD ⟨#[]⟩), .bool o.isSome] := by cases o <;> rfl
theorem DidAt.atE (h : DidAt w w6 rv (slc S n cap) k key val st v1 v2 v3 v4) (hr : RefP Q w S cap rv W) : AtE Q w w6 S cap n rv W := ⟨h.X, h.R, h.A, hr.below h.bel, .of h.bel, hr.blk.lt⟩
theorem cells5 {g t m : Nat} {a b c d e : Value} (h : RowTo w g t m [a, b, c, d, e]) : w.cell? ⟨g, 0, none⟩ = some a ∧ w.cell? ⟨g, 1, none⟩ = some b ∧ w.cell? ⟨g, 2, none⟩ = some c ∧ w.cell? ⟨g, 3, none⟩ = some d ∧ w.cell? ⟨g, 4, none⟩ = some e :=
 ⟨h.cell (j := 0) (by simp), h.cell (j := 1) (by simp), h.cell (j := 2) (by simp), h.cell (j := 3) (by simp), h.cell (j := 4) (by simp)⟩
theorem frozen5 {g t m : Nat} {xs : List Value} (h : RowTo w g t m xs) (o : Nat) : w.frozen? ⟨g, o, none⟩ = false ∧ w.frozen? ⟨g, o + 1, none⟩ = false ∧ w.frozen? ⟨g, o + 2, none⟩ = false ∧ w.frozen? ⟨g, o + 3, none⟩ = false ∧ w.frozen? ⟨g, o + 4, none⟩ = false :=
 ⟨h.frozen _, h.frozen _, h.frozen _, h.frozen _, h.frozen _⟩
theorem any5 {g t m o : Nat} {xs : List Value} (h : RowTo w g t m xs) (ho : o + 4 < m) : ∃ a b c d e, w.cell? ⟨g, o, none⟩ = some a ∧ w.cell? ⟨g, o + 1, none⟩ = some b ∧ w.cell? ⟨g, o + 2, none⟩ = some c ∧ w.cell? ⟨g, o + 3, none⟩ = some d ∧ w.cell? ⟨g, o + 4, none⟩ = some e := by
 obtain ⟨a, ha⟩ := h.any (j := o) (by omega)
 obtain ⟨b, hb⟩ := h.any (j := o + 1) (by omega)
 obtain ⟨c, hc⟩ := h.any (j := o + 2) (by omega)
 obtain ⟨d, hd⟩ := h.any (j := o + 3) (by omega)
 obtain ⟨e, he⟩ := h.any (j := o + 4) (by omega)
 exact ⟨a, b, c, d, e, ha, hb, hc, hd, he⟩
theorem plusZ {l : PL} (h : Sz60 l) (hv : key.size ≤ 8 ∧ val.size ≤ 60) : (plusL l key val).length * 32 ≤ 140737488351232 ∧ ∀ p ∈ plusL l key val, p.1.size ≤ 140737488351232 ∧ p.2.size ≤ 140737488351232 := by
 refine ⟨by have := plusL_len l key val; have := h.1; omega, fun p hp => ?_⟩
 rcases plusL_mem hp with rfl | hp
 ·exact ⟨by show key.size ≤ _; omega, by show val.size ≤ _; omega⟩
 ·have := h.2 p hp; omega
def InT (Q : Nat → Prop) (w : World) (S : Nat) (b : Nat) : Prop := Q b ∧ b ≠ S ∧ (b < w.heap.size ∨ w.heap.size + 1 + 1 + 1 + 1 + 1 + 1 ≤ b)
theorem oldT {v : Value} {l : PL} (hQ : ∀ b, Q b → b ≠ S) (h : Lst w w.heap.size v l) (hp : InP Q v l) : InP (InT Q w S) v l := (hp.and h.inP).mono fun b hb => ⟨hb.1, hQ b hb.1, .inl hb.2⟩
theorem newT {w7 w8 : World} {t : Nat} {v : Value} {l : PL} (hN : ∀ b, w.heap.size ≤ b → Q b) (hS : S < w.heap.size) (hz : w.heap.size + 1 + 1 + 1 + 1 + 1 + 1 ≤ w7.heap.size) (h : w8.ownsRow w7.heap.size t 2 v l.length (flat l)) : InP (InT Q w S) v l := (own_inP h).mono fun b hb => ⟨hN b (by have := hb.1; omega), by have := hb.1; omega, .inr (by have := hb.1; omega)⟩
theorem set5_blk {a b : World} {o : Nat} {a0 a1 a2 a3 a4 : Value} (h : a.heap[S]? = b.heap[S]?) : (set5 a S o a0 a1 a2 a3 a4).heap[S]? = (set5 b S o a0 a1 a2 a3 a4).heap[S]? := by
 unfold set5
 exact setCell_block (p := ⟨S, o + 4, none⟩) (setCell_block (p := ⟨S, o + 3, none⟩) (setCell_block (p := ⟨S, o + 2, none⟩) (setCell_block (p := ⟨S, o + 1, none⟩) (setCell_block (p := ⟨S, o, none⟩) h))))
theorem DidAt.put {i : Nat} {rows' : PL} {s' : Sess} {u1 u2 u3 u4 : Value} (h : DidAt w w6 r sv k key val st v1 v2 v3 v4) (hr : RefP Q w S cap rv W) (hQ : ∀ b, Q b → b ≠ S) (hi : i < W.ss.length) {rz : Value}
  (hX : RowTo wz w.heap.size 39 2 [rz, slc S n cap]) (hz : ∀ b, b ≠ w.heap.size → b ≠ w.heap.size + 1 + 1 + 1 + 1 → wz.heap[b]? = w6.heap[b]?) (hs : wz.heap.size = w6.heap.size) (ht : wz.os = w6.os ∧ wz.tape = w6.tape ∧ wz.output = w6.output)
  (l0 : Lst w6 w6.heap.size rz rows') (l1 : Lst w6 w6.heap.size u1 s'.set) (l2 : Lst w6 w6.heap.size u2 s'.prep) (l3 : Lst w6 w6.heap.size u3 s'.sav) (l4 : Lst w6 w6.heap.size u4 s'.wr)
  (q0 : InP (InT Q w S) rz rows') (q1 : InP (InT Q w S) u1 s'.set) (q2 : InP (InT Q w S) u2 s'.prep) (q3 : InP (InT Q w S) u3 s'.sav) (q4 : InP (InT Q w S) u4 s'.wr) :
  AtE Q w (set5 wz S (i * 5) (.int .i64 s'.st) u1 u2 u3 u4) S cap n rz ⟨rows', W.ss.set i s'⟩ ∧ RowTo (set5 wz S (i * 5) (.int .i64 s'.st) u1 u2 u3 u4) (w.heap.size + 1 + 1 + 1 + 1 + 1) 46 3 [.int .i64 1, .string ⟨#[]⟩, .int .i64 0] := by
 have hSw := hr.blk.lt
 have hk : ∀ b, b ≠ S → (set5 wz S (i * 5) (.int .i64 s'.st) u1 u2 u3 u4).heap[b]? = wz.heap[b]? := fun b hb => by
  unfold set5
  rw [Below.heap_setCell _ _ _ _ hb, Below.heap_setCell _ _ _ _ hb, Below.heap_setCell _ _ _ _ hb, Below.heap_setCell _ _ _ _ hb, Below.heap_setCell _ _ _ _ hb]
 have hS5 : (set5 wz S (i * 5) (.int .i64 s'.st) u1 u2 u3 u4).heap[S]? = (set5 w6 S (i * 5) (.int .i64 s'.st) u1 u2 u3 u4).heap[S]? := set5_blk (hz S (by omega) (by omega))
 have hs5 : (set5 wz S (i * 5) (.int .i64 s'.st) u1 u2 u3 u4).heap.size = w6.heap.size := by rw [← hs]; unfold set5; simp [World.setCell]
 have e1 : (set5 wz S (i * 5) (.int .i64 s'.st) u1 u2 u3 u4).os = wz.os ∧ (set5 wz S (i * 5) (.int .i64 s'.st) u1 u2 u3 u4).tape = wz.tape ∧ (set5 wz S (i * 5) (.int .i64 s'.st) u1 u2 u3 u4).output = wz.output := by unfold set5; simp only [World.setCell, and_self]
 generalize set5 wz S (i * 5) (.int .i64 s'.st) u1 u2 u3 u4 = w7 at *
 have q2' := (hk (w.heap.size + 1 + 1) (by omega)).trans (hz _ (by omega) (by omega))
 have q3' := (hk (w.heap.size + 1 + 1 + 1) (by omega)).trans (hz _ (by omega) (by omega))
 have q5' := (hk (w.heap.size + 1 + 1 + 1 + 1 + 1) (by omega)).trans (hz _ (by omega) (by omega))
 have hold : ∀ b, b ≠ S → b < w.heap.size → w7.heap[b]? = w.heap[b]? := fun b h1 h2 => (hk b h1).trans ((hz b (by omega) (by omega)).trans (h.bel.block b h2))
 refine ⟨⟨hX.same (hk _ (by omega)), h.R.same q2', h.A.same q3', hr.put hi hQ (T := fun b => b ≠ S ∧ (b < w.heap.size ∨ w.heap.size + 1 + 1 + 1 + 1 + 1 + 1 ≤ b)) hs5 (fun b hb h2 => hold b (hQ b hb) h2) (fun b hb => (hk b hb.1).trans (hz b (by omega) (by omega))) h.bel hS5 l0 l1 l2 l3 l4 q0 q1 q2 q3 q4, ⟨⟨by rw [hs5]; exact h.bel.size, fun b h1 h2 => hold b h2 h1⟩, e1.1.trans (ht.1.trans h.bel.os), e1.2.1.trans (ht.2.1.trans h.bel.tape), e1.2.2.trans (ht.2.2.trans h.bel.output)⟩, hSw⟩, h.O.same q5'⟩
end
def FRow (w : World) (P t n : Nat) (f : Nat → Value) : Prop := ∃ cur : Array Value, w.heap[P]? = some (.cells cur t (0, 0)) ∧ cur.size = n ∧ ∀ j, j < n → cur[j]? = some (f j)
section
variable {w w' : World} {P t n : Nat} {f : Nat → Value}
theorem FRow.cell (h : FRow w P t n f) {j : Nat} (hj : j < n) : w.cell? ⟨P, j, none⟩ = some (f j) := by
 obtain ⟨cur, hh, hs, hc⟩ := h
 unfold World.cell?
 simp only [hh]
 exact hc j hj
theorem FRow.frozen (h : FRow w P t n f) (j : Nat) : w.frozen? ⟨P, j, none⟩ = false := by
 obtain ⟨cur, hh, _⟩ := h
 unfold World.frozen?
 simp [hh]
theorem FRow.lt (h : FRow w P t n f) : P < w.heap.size := by
 obtain ⟨cur, hh, _⟩ := h
 exact (Array.getElem?_eq_some_iff.1 hh).1
theorem FRow.same (h : FRow w P t n f) (e : w'.heap[P]? = w.heap[P]?) : FRow w' P t n f := by
 obtain ⟨cur, hh, r⟩ := h
 exact ⟨cur, e.trans hh, r⟩
theorem FRow.set (h : FRow w P t n f) (j : Nat) (u : Value) : FRow (w.setCell ⟨P, j, none⟩ u) P t n (upd f j u) := by
 obtain ⟨cur, hh, hs, hc⟩ := h
 refine ⟨cur.setIfInBounds j u, ?_, by simpa using hs, fun i hi => ?_⟩
 ·simp [World.setCell, Array.getElem?_modify, hh]
 ·rw [Array.getElem?_setIfInBounds]
  unfold upd
  by_cases e : j = i
  ·subst e; rw [if_pos rfl, if_pos (by omega), if_pos rfl]
  ·rw [if_neg e, if_neg (fun h => e h.symm)]; exact hc i hi
theorem FRow.new (w : World) (cs : Array Value) (t : Nat) (hs : cs.size = n) (f : Nat → Value) (hf : ∀ j, j < n → cs[j]? = some (f j)) : FRow (w.alloc (.cells cs t)) w.heap.size t n f :=
 ⟨cs, heap_alloc_new w _, hs, hf⟩
end
structure Ask where
 r : Req
 ok : Bool
def Ask.req (a : Ask) : Req := if a.ok = true then a.r else Req.none_
def askV (a : Ask) : List Value := [.int .i64 a.r.k, .string a.r.key, .string a.r.val, .bool a.ok]
def hT (k : Nat) : Nat := if k < 9 then 100 else if k < 11 then 3 else 70
def hZ (k : Nat) : Nat := if k < 9 then 4 else if k < 11 then 1 else 7
def hV (f g : Nat → Value) (k : Nat) : Value := if k < 9 then g ((k - 3) * 4 + 1) else f (k - 4)
def hI (m : Mach Wd) (q : Nat → List Ask) (ow : List Int) (k : Nat) : List (List Value) := if k < 9 then (q (k - 3)).map askV else if k = 9 then ow.map (fun n => [.int .i64 n]) else if k = 10 then m.line.map (fun (n : Nat) => [Value.int .i64 (n : Int)]) else m.deeds.map deedV
def srvI (o : Option Nat) : Int := match o with
 | none => -1
 | some s => s
structure HMem (X : Nat) (w : World) (base H A S : Nat) (f g : Nat → Value) (G : Nat → Option Nat) (mode : Int) (m : Mach Wd) (q : Nat → List Ask) (ow : List Int) : Prop where
 h : FRow w H 91 8 f
 a : FRow w A 94 24 g
 ref : RefP (Free G) w S 6 (f 2) m.e
 g0 : G 0 = some H
 g1 : G 1 = some A
 g2 : G 2 = some S
 lo : ∀ i b, G i = some b → base ≤ b ∧ b < w.heap.size
 inj : ∀ i j b, G i = some b → G j = some b → i = j
 sl : ∀ k, 3 ≤ k → k ≤ 11 → k ≠ X → Sl w (hT k) (hZ k) (hV f g k) (G k) (hI m q ow k).length (hI m q ow k).flatten
 md : f 0 = .int .i64 mode
 f3 : f 3 = .slice (some ⟨S, 0, none⟩) 6 6
 f4 : f 4 = .slice (some ⟨A, 0, none⟩) 6 6
 bytes : ∀ c, c < 6 → g (c * 4) = .string (m.get c).bytes
 srv : ∀ c, c < 6 → g (c * 4 + 2) = .int .i64 (srvI (m.get c).srv)
 sent : ∀ c, c < 6 → g (c * 4 + 3) = .string (m.sent.getD c ⟨#[]⟩)
section
variable {X : Nat} {w w' : World} {base H A S : Nat} {f g : Nat → Value} {G : Nat → Option Nat} {mode : Int} {m m' : Mach Wd} {q q' : Nat → List Ask} {ow ow' : List Int}
theorem HMem.ne {i j : Nat} {b c : Nat} (h : HMem X w base H A S f g G mode m q ow) (hi : G i = some b) (hj : G j = some c) (hij : i ≠ j) : b ≠ c := fun e => hij (h.inj i j b hi (by rw [hj, e]))
theorem HMem.keep (h : HMem X w base H A S f g G mode m q ow) (hX : 3 ≤ X) (hs : w.heap.size ≤ w'.heap.size) (hk : ∀ b, b < w.heap.size → G X ≠ some b → w'.heap[b]? = w.heap[b]?) : HMem X w' base H A S f g G mode m q ow := by
 have hb : ∀ i b, G i = some b → i ≠ X → w'.heap[b]? = w.heap[b]? := fun i b hi hne => hk b (h.lo i b hi).2 (fun e => hne (h.inj i X b hi e))
 refine ⟨h.h.same (hb 0 H h.g0 (by omega)), h.a.same (hb 1 A h.g1 (by omega)), h.ref.keep hs (hb 2 S h.g2 (by omega)) (fun b hf hlt => hk b hlt (hf X)), h.g0, h.g1, h.g2, fun i b hi => ⟨(h.lo i b hi).1, Nat.lt_of_lt_of_le (h.lo i b hi).2 hs⟩, h.inj, fun k h1 h2 h3 => (h.sl k h1 h2 h3).keep fun b hb' => hb k b hb' h3, h.md, h.f3, h.f4, h.bytes, h.srv, h.sent⟩
theorem HMem.below (h : HMem X w base H A S f g G mode m q ow) (hb : Below w.heap.size w w') : HMem X w' base H A S f g G mode m q ow :=
 ⟨h.h.same (hb.block H h.h.lt), h.a.same (hb.block A h.a.lt), h.ref.below hb, h.g0, h.g1, h.g2, fun i b hi => ⟨(h.lo i b hi).1, Nat.lt_of_lt_of_le (h.lo i b hi).2 hb.size⟩, h.inj, fun k h1 h2 h3 => (h.sl k h1 h2 h3).below hb, h.md, h.f3, h.f4, h.bytes, h.srv, h.sent⟩
theorem HMem.but (h : HMem 0 w base H A S f g G mode m q ow) (X : Nat) : HMem X w base H A S f g G mode m q ow := ⟨h.h, h.a, h.ref, h.g0, h.g1, h.g2, h.lo, h.inj, fun k h1 h2 _ => h.sl k h1 h2 (by omega), h.md, h.f3, h.f4, h.bytes, h.srv, h.sent⟩
theorem HMem.move (h : HMem X w base H A S f g G mode m q ow) (hX : 3 ≤ X) (hs : w.heap.size ≤ w'.heap.size) (hk : ∀ b, b < w.heap.size → G X ≠ some b → w'.heap[b]? = w.heap[b]?) {b : Nat} (hb : w.heap.size ≤ b) (hb' : b < w'.heap.size) (hbase : base ≤ w.heap.size) : HMem X w' base H A S f g (upd G X (some b)) mode m q ow := by
 have h2 := h.keep hX hs hk
 have hlt : ∀ i x, G i = some x → x < w.heap.size := fun i x hx => (h.lo i x hx).2
 have up : ∀ i, i ≠ X → upd G X (some b) i = G i := fun i hi => by unfold upd; rw [if_neg hi]
 have upX : upd G X (some b) X = some b := by unfold upd; rw [if_pos rfl]
 have hr := (h.ref.small.keep hs (hk S h.ref.blk.lt (fun e => by have := h.inj X 2 S e h.g2; omega)) (fun x hx hlt' => hk x hlt' (hx.1 X))).mono (Q' := Free (upd G X (some b))) fun x hx => free_upd hx.1 (by have := hx.2; omega)
 refine ⟨h2.h, h2.a, hr, (up 0 (by omega)).trans h.g0, (up 1 (by omega)).trans h.g1, (up 2 (by omega)).trans h.g2, fun i x hx => ?_, fun i j x hi hj => ?_, fun k h1 h3 h4 => by rw [up k h4]; exact h2.sl k h1 h3 h4, h.md, h.f3, h.f4, h.bytes, h.srv, h.sent⟩
 ·by_cases e : i = X
  ·subst e; rw [upX] at hx; injection hx with hx; omega
  ·rw [up i e] at hx; exact h2.lo i x hx
 ·by_cases ei : i = X <;> by_cases ej : j = X
  ·omega
  ·subst ei; rw [upX] at hi; rw [up j ej] at hj; injection hi with hi; have := hlt j x hj; omega
  ·subst ej; rw [upX] at hj; rw [up i ei] at hi; injection hj with hj; have := hlt i x hi; omega
  ·rw [up i ei] at hi; rw [up j ej] at hj; exact h.inj i j x hi hj
theorem HMem.world (h : HMem X w base H A S f g G mode m q ow) (ho : Only S w w') {r : Value} {W : Wd} (hr : RefP (Free G) w' S 6 r W) :
  HMem X ((w'.setCell ⟨H, 2, none⟩ r).setCell ⟨H, 3, none⟩ (.slice (some ⟨S, 0, none⟩) 6 6)) base H A S (upd (upd f 2 r) 3 (.slice (some ⟨S, 0, none⟩) 6 6)) g G mode { m with e := W } q ow := by
 have hHS := h.ne h.g0 h.g2 (by omega)
 have hAS := h.ne h.g1 h.g2 (by omega)
 have hHA := h.ne h.g0 h.g1 (by omega)
 have hk : ∀ b, b ≠ H → ((w'.setCell ⟨H, 2, none⟩ r).setCell ⟨H, 3, none⟩ (.slice (some ⟨S, 0, none⟩) 6 6)).heap[b]? = w'.heap[b]? := fun b hb => (set_off _ H 3 _ b hb).trans (set_off _ H 2 _ b hb)
 have hz : ((w'.setCell ⟨H, 2, none⟩ r).setCell ⟨H, 3, none⟩ (.slice (some ⟨S, 0, none⟩) 6 6)).heap.size = w'.heap.size := by rw [size_set, size_set]
 have hV' : ∀ k, 3 ≤ k → hV (upd (upd f 2 r) 3 (.slice (some ⟨S, 0, none⟩) 6 6)) g k = hV f g k := fun k hk => by
  unfold hV
  split
  ·rfl
  ·rw [upd_ne (by omega), upd_ne (by omega)]
 refine ⟨((h.h.same (ho.2 H h.h.lt hHS)).set _ _).set _ _, h.a.same ((hk A hHA.symm).trans (ho.2 A h.a.lt hAS)), ?_, h.g0, h.g1, h.g2, fun i b hi => ⟨(h.lo i b hi).1, by rw [hz]; exact Nat.lt_of_lt_of_le (h.lo i b hi).2 ho.1⟩, h.inj, fun k h1 h2 h3 => ?_, ?_, ?_, ?_, h.bytes, h.srv, h.sent⟩
 ·rw [upd_ne (by omega), upd_at]
  exact hr.keep (by omega) (hk S hHS.symm) (fun b hb _ => hk b (fun e => hb 0 (by rw [e]; exact h.g0)))
 ·rw [hV' k h1]
  exact (h.sl k h1 h2 h3).keep fun b hb => (hk b (h.ne hb h.g0 (by omega))).trans (ho.2 b (h.lo k b hb).2 (h.ne hb h.g2 (by omega)))
 ·rw [upd_ne (by omega), upd_ne (by omega)]; exact h.md
 ·rw [upd_at]
 ·rw [upd_ne (by omega), upd_ne (by omega)]; exact h.f4
theorem HMem.cellA (h : HMem X w base H A S f g G mode m q ow) (j : Nat) (u : Value) (hj : ∀ k, 3 ≤ k → k ≤ 8 → k ≠ X → (k - 3) * 4 + 1 ≠ j) (hm : m'.e = m.e) (hI' : ∀ k, 3 ≤ k → k ≤ 11 → k ≠ X → hI m' q' ow' k = hI m q ow k)
  (hb : ∀ c, c < 6 → upd g j u (c * 4) = .string (m'.get c).bytes) (hv : ∀ c, c < 6 → upd g j u (c * 4 + 2) = .int .i64 (srvI (m'.get c).srv)) (hs : ∀ c, c < 6 → upd g j u (c * 4 + 3) = .string (m'.sent.getD c ⟨#[]⟩)) :
  HMem X (w.setCell ⟨A, j, none⟩ u) base H A S f (upd g j u) G mode m' q' ow' := by
 have hHA := h.ne h.g0 h.g1 (by omega)
 have hSA := h.ne h.g2 h.g1 (by omega)
 have hk := set_off w A j u
 have hz := size_set w ⟨A, j, none⟩ u
 refine ⟨h.h.same (hk H hHA), h.a.set _ _, by rw [hm]; exact h.ref.keep (by omega) (hk S hSA) (fun b hb' _ => hk b (fun e => hb' 1 (by rw [e]; exact h.g1))), h.g0, h.g1, h.g2, fun i b hi => by rw [hz]; exact h.lo i b hi, h.inj, fun k h1 h2 h3 => ?_, h.md, h.f3, h.f4, hb, hv, hs⟩
 have e : hV f (upd g j u) k = hV f g k := by
  unfold hV
  split
  ·rw [upd_ne (hj k h1 (by omega) h3)]
  ·rfl
 rw [e, hI' k h1 h2 h3]
 exact (h.sl k h1 h2 h3).keep fun b hb' => hk b (h.ne hb' h.g1 (by omega))
theorem HMem.cellH (h : HMem X w base H A S f g G mode m q ow) (hX : 9 ≤ X) (hX' : X ≤ 11) (u : Value) : HMem X (w.setCell ⟨H, X - 4, none⟩ u) base H A S (upd f (X - 4) u) g G mode m q ow := by
 have hHA := h.ne h.g0 h.g1 (by omega)
 have hHS := h.ne h.g0 h.g2 (by omega)
 have hk := set_off w H (X - 4) u
 have hz := size_set w ⟨H, X - 4, none⟩ u
 refine ⟨h.h.set _ _, h.a.same (hk A hHA.symm), by rw [upd_ne (by omega)]; exact h.ref.keep (by omega) (hk S hHS.symm) (fun b hb' _ => hk b (fun e => hb' 0 (by rw [e]; exact h.g0))), h.g0, h.g1, h.g2, fun i b hi => by rw [hz]; exact h.lo i b hi, h.inj, fun k h1 h2 h3 => ?_, by rw [upd_ne (by omega)]; exact h.md, by rw [upd_ne (by omega)]; exact h.f3, by rw [upd_ne (by omega)]; exact h.f4, h.bytes, h.srv, h.sent⟩
 have e : hV (upd f (X - 4) u) g k = hV f g k := by
  unfold hV
  split
  ·rfl
  ·rw [upd_ne (by omega)]
 rw [e]
 exact (h.sl k h1 h2 h3).keep fun b hb' => hk b (h.ne hb' h.g0 (by omega))
theorem HMem.fill (h : HMem X w base H A S f g G mode m q ow) (hs : Sl w (hT X) (hZ X) (hV f g X) (G X) (hI m' q' ow' X).length (hI m' q' ow' X).flatten) (ho : ∀ k, 3 ≤ k → k ≤ 11 → k ≠ X → hI m' q' ow' k = hI m q ow k) (he : m'.e = m.e)
  (hb : ∀ c, c < 6 → (m'.get c).bytes = (m.get c).bytes) (hv : ∀ c, c < 6 → (m'.get c).srv = (m.get c).srv) (hn : ∀ c, c < 6 → m'.sent.getD c ⟨#[]⟩ = m.sent.getD c ⟨#[]⟩) : HMem 0 w base H A S f g G mode m' q' ow' := by
 refine ⟨h.h, h.a, by rw [he]; exact h.ref, h.g0, h.g1, h.g2, h.lo, h.inj, fun k h1 h2 _ => ?_, h.md, h.f3, h.f4, fun c hc => by rw [hb c hc]; exact h.bytes c hc, fun c hc => by rw [hv c hc]; exact h.srv c hc, fun c hc => by rw [hn c hc]; exact h.sent c hc⟩
 by_cases e : k = X
 ·subst e; exact hs
 ·rw [ho k h1 h2 e]; exact h.sl k h1 h2 e
theorem HMem.grown {w1 : World} {b : Nat} (h : HMem X w base H A S f g G mode m q ow) (hX : 3 ≤ X) (hbase : base ≤ w.heap.size) (hg : w.grownBy w1 (G X)) (hb : G X = some b ∨ (w.heap.size ≤ b ∧ b < w1.heap.size)) : HMem X w1 base H A S f g (upd G X (some b)) mode m q ow := by
 have hk : ∀ b, b < w.heap.size → G X ≠ some b → w1.heap[b]? = w.heap[b]? := fun b hlt hne => hg.block b hlt (fun e => hne e.symm)
 rcases hb with hb | ⟨hb, hb'⟩
 ·have : upd G X (some b) = G := by
   funext i; unfold upd; split
   ·rename_i e; rw [e, hb]
   ·rfl
  rw [this]; exact h.keep hX hg.size hk
 ·exact h.move hX hg.size hk hb hb' hbase
end
end Go.Proofs.YtpbaobmegomfpabGreatDoor
