/-
  Texts of the proof, one behind the other: Say9, Say10, BChk, BChk2, BCheck, BChkDo, BCopy2, BCopy3, BackKeep, AnsM, BDo, InP, WOff, WldP0.
-/
import Derived.Test.YtpbaobmegomfpabDoorM3
import Derived.Test.YtpbaobmegomfpabDoorM1
import Derived.Deep.QuietTactic
import Derived.BigQuiet
import Derived.IntWalk
import Derived.WalkSmall
import Derived.Deep.RegionHeld3
import Derived.Deep.RegionWith
import Derived.Test.YtpbaobmegomfpabDoorM2
/-
  Walks of the reference's StmtOf, where StmtFault is known for shorter texts; both, by induction.
-/
namespace Go.Proofs.YtpbaobmegomfpabDoor
open Go.RowKit
set_option linter.unusedVariables false
set_option maxRecDepth 100000

theorem of_long (t : ByteArray) (h : 60 < t.size) (w : World) :
    Calls Tryd.prog 52 #[.string t] w fun e w' => e = .returned (.tuple #[.agg #[.int .i64 0, .string ⟨#[]⟩, .string ⟨#[]⟩], .int .i64 1]) ∧ Below w.heap.size w w' := by
  have hd : decide (60 < (t.size : Int)) = true := decide_eq_true (by omega)
  go_enter Tryd.func52, Tryd.ntmps52
  go_wp2
  refine bodyPost_ret (v := .tuple #[.agg #[.int .i64 0, .string ⟨#[]⟩, .string ⟨#[]⟩], .int .i64 1]) (by simp [results, Tryd.results52, go_sem]) rfl ⟨rfl, ?_⟩
  repeat' (first | exact Below.refl _ _ | assumption | with_reducible refine below_drewN ?_ _ | with_reducible refine Below.drew ?_ | with_reducible refine Below.setCell ?_ ?_ _ | with_reducible refine Below.alloc ?_ ?_ _ | (simp; done) | (simp; omega))

/-- at the head of the loop over the words -/
structure LoopSt (w wr : World) (word : ByteArray) (k : Nat) : Prop where
  bel : Below w.heap.size w wr
  res : Stm wr w.heap.size 0 ⟨#[]⟩ ⟨#[]⟩
  st : Stm wr (w.heap.size + 1) (kindBefore k word) ⟨#[]⟩ ⟨#[]⟩

/-- what StmtOf returns -/
def ofV (t : ByteArray) : Value := if readE t = 0 then .tuple #[.agg #[.int .i64 (kindN (cutA t)), .string (cutA (cutB t)), .string (cutB (cutB t))], .int .i64 0] else .tuple #[.agg #[.int .i64 0, .string ⟨#[]⟩, .string ⟨#[]⟩], .int .i64 (readE t)]

theorem ofV_ok {t : ByteArray} (h : readE t = 0) : ofV t = .tuple #[.agg #[.int .i64 (kindN (cutA t)), .string (cutA (cutB t)), .string (cutB (cutB t))], .int .i64 0] := by unfold ofV; rw [if_pos h]
theorem ofV_no {t : ByteArray} (h : readE t ≠ 0) : ofV t = .tuple #[.agg #[.int .i64 0, .string ⟨#[]⟩, .string ⟨#[]⟩], .int .i64 (readE t)] := by unfold ofV; rw [if_neg h]

theorem ofV_form {t : ByteArray} (h : ¬ 60 < t.size) (hk : kindN (cutA t) ≠ 0) (hb : splitBad t = true) : ofV t = .tuple #[.agg #[.int .i64 0, .string ⟨#[]⟩, .string ⟨#[]⟩], .int .i64 4] := by
  have e : readE t = 4 := by rw [readE_split h (by rw [splitE_form hk hb]; decide), splitE_form hk hb]
  rw [ofV_no (by rw [e]; decide), e]

set_option maxHeartbeats 2000000 in
theorem of_main (t : ByteArray) (h : t.size ≤ 60) (hF : splitE t = 0 → FaultSaid (kindN (cutA t)) (cutA (cutB t)) (cutB (cutB t))) (w : World) :
    Calls Tryd.prog 52 #[.string t] w fun e w' => e = .returned (ofV t) ∧ Below w.heap.size w w' := by
  have hd : decide (60 < (t.size : Int)) = false := decide_eq_false (by omega)
  have hs2 : (cutB t).size ≤ maxLen := by rw [cutB_size]; unfold maxLen; omega
  have HF := Lib.hid hF
  clear hF
  go_enter Tryd.func52, Tryd.ntmps52
  go_wp2_with fail
  refine (upTo_any t _ (by unfold maxLen; omega)).mono ?_
  rintro e w1 ⟨rfl, n, rfl⟩
  go_wp2
  go_loopw [8] (fun c wr => ∃ k : Nat, 1 ≤ k ∧ k ≤ 12 ∧ c = .int .i64 k ∧ LoopSt w wr (cutA t) k) (fun c _ => 12 - (intOf c).toNat)
  case atStart =>
    refine ⟨1, by omega, by omega, rfl, ?_, ?_, ?_⟩
    · repeat' (first | exact Below.refl _ _ | assumption | with_reducible refine below_drewN ?_ _ | with_reducible refine Below.drew ?_ | with_reducible refine Below.setCell ?_ ?_ _ | with_reducible refine Below.alloc ?_ ?_ _ | (simp; done) | (simp; omega))
    · exact ((Stm.new w 0 _ _ _).below (below_drewN (Below.refl _ _) n)).below ((Below.refl _ _).alloc (Nat.le_refl _) _)
    · rw [kindBefore_one]
      have := Stm.new ((w.alloc (Obj.cells #[.int .i64 0, .string ⟨#[]⟩, .string ⟨#[]⟩] 27)).drewN n) 0 ⟨#[]⟩ ⟨#[]⟩ 27
      simpa using this
  case round =>
    obtain ⟨k, hk1, hk2, rfl, hS⟩ := hrel
    by_cases hlt : k ≤ 11
    · have HS := Lib.hid hS
      clear hS
      have hwl := Lib.hid (wordAt_toList k)
      by_cases hit : kindN (cutA t) = k
      · have hb : ((wordAt k).toList == (cutA t).toList) = true := by
          rw [Lib.toList_data, Lib.toList_data, hwl.out, beq_iff_eq]; exact (kindN_word_iff hk1 hlt).1 hit
        have Hit := Lib.hid hit
        clear hit
        go_wp2_with fail
        refine (wordOf_any k _ hk1 hlt).mono ?_
        rintro e w2 ⟨rfl, hb2⟩
        have hs2 := HS.out.st.below hb2
        have c0 := hs2.c0
        have f0 := hs2.fz 0
        have HS2 := Lib.hid hs2
        clear hs2
        go_wp2
        go_roundw
        case rel =>
          refine ⟨k + 1, by omega, by omega, by go_num, ?_, ?_, ?_⟩
          · exact (bel_trans HS.out.bel hb2).setCell (by simp) _
          · exact (HS.out.res.below hb2).other (by omega)
          · rw [kindBefore_hit Hit.out]; exact HS2.out.set0
        case measure => simp [intOf]; omega
      · have hb : ((wordAt k).toList == (cutA t).toList) = false := by
          rw [Lib.toList_data, Lib.toList_data, hwl.out, beq_eq_false_iff_ne]; exact fun e => hit ((kindN_word_iff hk1 hlt).2 e)
        have Hit := Lib.hid hit
        clear hit
        go_wp2_with fail
        refine (wordOf_any k _ hk1 hlt).mono ?_
        rintro e w2 ⟨rfl, hb2⟩
        go_wp2
        go_roundw
        case rel =>
          refine ⟨k + 1, by omega, by omega, by go_num, ?_, ?_, ?_⟩
          · exact bel_trans HS.out.bel hb2
          · exact HS.out.res.below hb2
          · rw [kindBefore_miss Hit.out]; exact HS.out.st.below hb2
        case measure => simp [intOf]; omega
    · obtain rfl : k = 12 := by omega
      obtain ⟨bel, res, st⟩ := hS
      rw [kindBefore_all] at st
      have HR := Lib.hid res
      have HT := Lib.hid st
      have r0 := res.c0
      have r1 := res.c1
      have r2 := res.c2
      have rf := res.fz
      have s0 := st.c0
      have s1 := st.c1
      have s2 := st.c2
      have sf := st.fz
      have sz := st.lt
      clear res st
      by_cases hk0 : kindN (cutA t) = 0
      · have hv := Lib.hid (show ofV t = .tuple #[.agg #[.int .i64 0, .string ⟨#[]⟩, .string ⟨#[]⟩], .int .i64 3] by
          unfold ofV
          have : readE t = 3 := by rw [readE_split (by omega) (by rw [splitE_kind hk0]; decide), splitE_kind hk0]
          rw [this, if_neg (by decide)])
        rw [hk0] at s0
        go_wp2
        refine bodyPost_ret (v := .tuple #[.agg #[.int .i64 0, .string ⟨#[]⟩, .string ⟨#[]⟩], .int .i64 3]) (by simp [results, Tryd.results52, go_sem, r0, r1, r2]) rfl ⟨by rw [hv.out], ?_⟩
        repeat' (first | exact Below.refl _ _ | assumption | with_reducible refine below_drewN ?_ _ | with_reducible refine Below.drew ?_ | with_reducible refine Below.setCell ?_ ?_ _ | with_reducible refine Below.alloc ?_ ?_ _ | (simp; done) | (simp; omega))
      · have hk0' : ((kindN (cutA t) : Int) == 0) = false := beq_eq_false_iff_ne.2 (by omega)
        have HK0 := Lib.hid hk0
        clear hk0
        cases h1 : cutF t
        · have hkey := Lib.hid (cutF_parts h1)
          have hE := splitE_zero HK0.out (splitBad_none h1)
          have HRd := Lib.hid (readE_check (t := t) (by omega) hE)
          have HFa := Lib.hid (HF.out hE)
          rw [hkey.out.1, hkey.out.2] at HRd HFa
          clear hE HF
          go_wp2_with fail
          refine (HFa.out _).mono ?_
          rintro e w4 ⟨rfl, hb4⟩
          have st4 := (HT.out).below hb4
          have re4 := (HR.out).below hb4
          obtain ⟨b4, z0, z1, z2, zf⟩ := st4
          obtain ⟨b5, q0, q1, q2, qf⟩ := re4
          have bel4 : Below w.heap.size w w4 := Below.trans (bel) (hb4.mono (by omega))
          clear hb4 r0 r1 r2 rf s0 s1 s2 sf
          by_cases hc : checkE (kindN (cutA t)) ⟨#[]⟩ ⟨#[]⟩ = 0
          · have hv := Lib.hid (ofV_ok (show readE t = 0 by rw [HRd.out]; exact hc))
            rw [hc]
            clear hc
            go_wp2
            refine bodyPost_ret (v := .tuple #[.agg #[.int .i64 (kindN (cutA t)), .string ⟨#[]⟩, .string ⟨#[]⟩], .int .i64 0]) (by simp [results, Tryd.results52, go_sem, q0, q1, q2]) rfl ⟨by rw [hv.out, hkey.out.1, hkey.out.2], ?_⟩
            repeat' (first | exact Below.refl _ _ | assumption | with_reducible refine below_drewN ?_ _ | with_reducible refine Below.drew ?_ | with_reducible refine Below.setCell ?_ ?_ _ | with_reducible refine Below.alloc ?_ ?_ _ | (simp; done) | (simp; omega))
          · have hv := Lib.hid (ofV_no (show readE t ≠ 0 by rw [HRd.out]; exact hc))
            have hv2 := Lib.hid HRd.out
            have hne : (checkE (kindN (cutA t)) ⟨#[]⟩ ⟨#[]⟩ != 0) = true := bne_iff_ne.2 hc
            generalize checkE (kindN (cutA t)) ⟨#[]⟩ ⟨#[]⟩ = c at *
            clear hc
            go_wp2
            refine bodyPost_ret (v := .tuple #[.agg #[.int .i64 0, .string ⟨#[]⟩, .string ⟨#[]⟩], .int .i64 c]) (by simp [results, Tryd.results52, go_sem, q0, q1, q2]) rfl ⟨by rw [hv.out, hv2.out], ?_⟩
            repeat' (first | exact Below.refl _ _ | assumption | with_reducible refine below_drewN ?_ _ | with_reducible refine Below.drew ?_ | with_reducible refine Below.setCell ?_ ?_ _ | with_reducible refine Below.alloc ?_ ?_ _ | (simp; done) | (simp; omega))
          
        · cases h2 : (cutA (cutB t)).toList.isEmpty
          · cases h3 : cutF (cutB t)
            · have hE := splitE_zero HK0.out (show splitBad t = false by unfold splitBad; rw [h1, h2, h3]; rfl)
              have HRd := Lib.hid (readE_check (t := t) (by omega) hE)
              have HFa := Lib.hid (HF.out hE)
              clear hE HF
              go_wp2_with fail
              refine (upTo_any (cutB t) _ hs2).mono ?_
              rw [h3]
              rintro e w3 ⟨rfl, m, rfl⟩
              go_wp2_with fail
              refine (HFa.out _).mono ?_
              rintro e w4 ⟨rfl, hb4⟩
              have st4 := ((HT.out.below (below_drewN (Below.refl _ _) m)).set12).below hb4
              have re4 := (((HR.out.below (below_drewN (Below.refl _ _) m)).other (by omega)).other (by omega)).below hb4
              obtain ⟨b4, z0, z1, z2, zf⟩ := st4
              obtain ⟨b5, q0, q1, q2, qf⟩ := re4
              have bel4 : Below w.heap.size w w4 := Below.trans (((below_drewN bel m).setCell (by simp) _).setCell (by simp) _) (hb4.mono (by simp; omega))
              clear hb4 r0 r1 r2 rf s0 s1 s2 sf
              by_cases hc : checkE (kindN (cutA t)) (cutA (cutB t)) (cutB (cutB t)) = 0
              · have hv := Lib.hid (ofV_ok (show readE t = 0 by rw [HRd.out]; exact hc))
                rw [hc]
                clear hc
                go_wp2
                refine bodyPost_ret (v := .tuple #[.agg #[.int .i64 (kindN (cutA t)), .string (cutA (cutB t)), .string (cutB (cutB t))], .int .i64 0]) (by simp [results, Tryd.results52, go_sem, q0, q1, q2]) rfl ⟨by rw [hv.out], ?_⟩
                repeat' (first | exact Below.refl _ _ | assumption | with_reducible refine below_drewN ?_ _ | with_reducible refine Below.drew ?_ | with_reducible refine Below.setCell ?_ ?_ _ | with_reducible refine Below.alloc ?_ ?_ _ | (simp; done) | (simp; omega))
              · have hv := Lib.hid (ofV_no (show readE t ≠ 0 by rw [HRd.out]; exact hc))
                have hv2 := Lib.hid HRd.out
                have hne : (checkE (kindN (cutA t)) (cutA (cutB t)) (cutB (cutB t)) != 0) = true := bne_iff_ne.2 hc
                generalize checkE (kindN (cutA t)) (cutA (cutB t)) (cutB (cutB t)) = c at *
                clear hc
                go_wp2
                refine bodyPost_ret (v := .tuple #[.agg #[.int .i64 0, .string ⟨#[]⟩, .string ⟨#[]⟩], .int .i64 c]) (by simp [results, Tryd.results52, go_sem, q0, q1, q2]) rfl ⟨by rw [hv.out, hv2.out], ?_⟩
                repeat' (first | exact Below.refl _ _ | assumption | with_reducible refine below_drewN ?_ _ | with_reducible refine Below.drew ?_ | with_reducible refine Below.setCell ?_ ?_ _ | with_reducible refine Below.alloc ?_ ?_ _ | (simp; done) | (simp; omega))
              
            · cases h4 : (cutB (cutB t)).toList.isEmpty
              · have hE := splitE_zero HK0.out (show splitBad t = false by unfold splitBad; rw [h1, h2, h3, h4]; rfl)
                have HRd := Lib.hid (readE_check (t := t) (by omega) hE)
                have HFa := Lib.hid (HF.out hE)
                clear hE HF
                go_wp2_with fail
                refine (upTo_any (cutB t) _ hs2).mono ?_
                rw [h3]
                rintro e w3 ⟨rfl, m, rfl⟩
                go_wp2_with fail
                refine (HFa.out _).mono ?_
                rintro e w4 ⟨rfl, hb4⟩
                have st4 := ((HT.out.below (below_drewN (Below.refl _ _) m)).set12).below hb4
                have re4 := (((HR.out.below (below_drewN (Below.refl _ _) m)).other (by omega)).other (by omega)).below hb4
                obtain ⟨b4, z0, z1, z2, zf⟩ := st4
                obtain ⟨b5, q0, q1, q2, qf⟩ := re4
                have bel4 : Below w.heap.size w w4 := Below.trans (((below_drewN bel m).setCell (by simp) _).setCell (by simp) _) (hb4.mono (by simp; omega))
                clear hb4 r0 r1 r2 rf s0 s1 s2 sf
                by_cases hc : checkE (kindN (cutA t)) (cutA (cutB t)) (cutB (cutB t)) = 0
                · have hv := Lib.hid (ofV_ok (show readE t = 0 by rw [HRd.out]; exact hc))
                  rw [hc]
                  clear hc
                  go_wp2
                  refine bodyPost_ret (v := .tuple #[.agg #[.int .i64 (kindN (cutA t)), .string (cutA (cutB t)), .string (cutB (cutB t))], .int .i64 0]) (by simp [results, Tryd.results52, go_sem, q0, q1, q2]) rfl ⟨by rw [hv.out], ?_⟩
                  repeat' (first | exact Below.refl _ _ | assumption | with_reducible refine below_drewN ?_ _ | with_reducible refine Below.drew ?_ | with_reducible refine Below.setCell ?_ ?_ _ | with_reducible refine Below.alloc ?_ ?_ _ | (simp; done) | (simp; omega))
                · have hv := Lib.hid (ofV_no (show readE t ≠ 0 by rw [HRd.out]; exact hc))
                  have hv2 := Lib.hid HRd.out
                  have hne : (checkE (kindN (cutA t)) (cutA (cutB t)) (cutB (cutB t)) != 0) = true := bne_iff_ne.2 hc
                  generalize checkE (kindN (cutA t)) (cutA (cutB t)) (cutB (cutB t)) = c at *
                  clear hc
                  go_wp2
                  refine bodyPost_ret (v := .tuple #[.agg #[.int .i64 0, .string ⟨#[]⟩, .string ⟨#[]⟩], .int .i64 c]) (by simp [results, Tryd.results52, go_sem, q0, q1, q2]) rfl ⟨by rw [hv.out, hv2.out], ?_⟩
                  repeat' (first | exact Below.refl _ _ | assumption | with_reducible refine below_drewN ?_ _ | with_reducible refine Below.drew ?_ | with_reducible refine Below.setCell ?_ ?_ _ | with_reducible refine Below.alloc ?_ ?_ _ | (simp; done) | (simp; omega))
                
              · have hv := Lib.hid (ofV_form (by omega) HK0.out (show splitBad t = true by unfold splitBad; rw [h1, h2, h3, h4]; rfl))
                go_wp2_with fail
                refine (upTo_any (cutB t) _ hs2).mono ?_
                rw [h3]
                rintro e w3 ⟨rfl, m, rfl⟩
                go_wp2
                refine bodyPost_ret (v := .tuple #[.agg #[.int .i64 0, .string ⟨#[]⟩, .string ⟨#[]⟩], .int .i64 4]) (by simp [results, Tryd.results52, go_sem, r0, r1, r2]) rfl ⟨by rw [hv.out], ?_⟩
                repeat' (first | exact Below.refl _ _ | assumption | with_reducible refine below_drewN ?_ _ | with_reducible refine Below.drew ?_ | with_reducible refine Below.setCell ?_ ?_ _ | with_reducible refine Below.alloc ?_ ?_ _ | (simp; done) | (simp; omega))
                
          · have hv := Lib.hid (ofV_form (by omega) HK0.out (show splitBad t = true by unfold splitBad; rw [h1, h2]; rfl))
            go_wp2_with fail
            refine (upTo_any (cutB t) _ hs2).mono ?_
            rintro e w3 ⟨rfl, m, rfl⟩
            go_wp2
            refine bodyPost_ret (v := .tuple #[.agg #[.int .i64 0, .string ⟨#[]⟩, .string ⟨#[]⟩], .int .i64 4]) (by simp [results, Tryd.results52, go_sem, r0, r1, r2]) rfl ⟨by rw [hv.out], ?_⟩
            repeat' (first | exact Below.refl _ _ | assumption | with_reducible refine below_drewN ?_ _ | with_reducible refine Below.drew ?_ | with_reducible refine Below.setCell ?_ ?_ _ | with_reducible refine Below.alloc ?_ ?_ _ | (simp; done) | (simp; omega))
            
end Go.Proofs.YtpbaobmegomfpabDoor

/-
  StmtOf and StmtFault of the reference, for all arguments.
-/
namespace Go.Proofs.YtpbaobmegomfpabDoor
open Go.RowKit
set_option linter.unusedVariables false

theorem wordL_one : ∀ k, k ≤ 11 → 1 ≤ k → 1 ≤ (wordL k).length := by decide
theorem kind_one {t : ByteArray} (h : kindN (cutA t) ≠ 0) : 1 ≤ t.size := by
  have h1 := kindN_word (s := cutA t) (by omega)
  have h2 := wordL_one (kindN (cutA t)) (kindN_le _) (by omega)
  rw [h1] at h2
  have h3 : (cutA t).data.toList.length = (cutA t).size := by simp
  have := cutA_size t
  have := cutI_le t
  omega

theorem of_all (n : Nat) : ∀ t : ByteArray, t.size ≤ n → OfSaid t := by
  induction n with
  | zero =>
    intro t ht
    have h := of_main t (by omega) (fun hE => absurd (kind_one (splitE_ok hE).1) (by omega))
    exact ⟨fun hr w => (h w).mono fun _ _ ⟨he, hb⟩ => ⟨by rw [he, ofV_ok hr], hb⟩, fun hr w => (h w).mono fun _ _ ⟨he, hb⟩ => ⟨by rw [he, ofV_no hr], hb⟩⟩
  | succ n ih =>
    intro t ht
    by_cases hl : 60 < t.size
    · refine ⟨fun hr => ?_, fun hr w => ?_⟩
      · rw [readE_long hl] at hr; cases hr
      · rw [readE_long hl]; exact of_long t hl w
    · have h := of_main t (by omega) (fun hE => by
        have h1 := kind_one (splitE_ok hE).1
        have h2 := cutB_size t
        have h3 := cutB_size (cutB t)
        have h4 := cutA_size (cutB t)
        have h5 := cutI_le (cutB t)
        exact fault_of _ _ _ (by unfold maxLen; omega) (by unfold maxLen; omega) (ih _ (by omega)))
      exact ⟨fun hr w => (h w).mono fun _ _ ⟨he, hb⟩ => ⟨by rw [he, ofV_ok hr], hb⟩, fun hr w => (h w).mono fun _ _ ⟨he, hb⟩ => ⟨by rw [he, ofV_no hr], hb⟩⟩

theorem stmtFault_any (k : Int) (key v : ByteArray) (hs : key.size ≤ maxLen) (hv : v.size ≤ maxLen) (w : World) :
    Calls Tryd.prog 28 #[.agg #[.int .i64 k, .string key, .string v]] w fun e w' => e = .returned (.int .i64 (checkE k key v)) ∧ Below w.heap.size w w' :=
  fault_of k key v hs hv (of_all v.size v (Nat.le_refl _)) w

end Go.Proofs.YtpbaobmegomfpabDoor

/-
  Walks of back.listFits and of the reference's pairsMay.
-/
namespace Go.Proofs.YtpbaobmegomfpabDoor
open Go.RowKit
set_option linter.unusedVariables false
set_option maxRecDepth 100000

/-- the first k pairs are as they should be -/
def GoodTo (l : PL) (kind : Int) (k : Nat) : Prop := (∀ j (h : j < l.length), j < k → checkE kind l[j].1 l[j].2 = 0) ∧ ∀ j (h : j + 1 < l.length), j + 1 < k → ltB l[j].1 l[j + 1].1 = true
theorem GoodTo.zero {l : PL} {kind : Int} {k : Nat} (h : GoodTo l kind k) (hk : k = 0) {hlt : k < l.length} (hc : checkE kind l[k].1 l[k].2 = 0) : GoodTo l kind (k + 1) := by
  subst hk
  refine ⟨fun j hj hjk => ?_, fun j hj hjk => by omega⟩
  obtain rfl : j = 0 := by omega
  exact hc
theorem GoodTo.succ {l : PL} {kind : Int} {k : Nat} (h : GoodTo l kind k) (hk : k ≠ 0) {hlt : k < l.length} (hc : checkE kind l[k].1 l[k].2 = 0) (hq : ltB l[k - 1].1 l[k].1 = true) : GoodTo l kind (k + 1) := by
  refine ⟨fun j hj hjk => ?_, fun j hj hjk => ?_⟩
  · by_cases e : j = k
    · subst e; exact hc
    · exact h.1 j hj (by omega)
  · by_cases e : j + 1 = k
    · subst e; exact hq
    · exact h.2 j hj (by omega)
theorem GoodTo.all {l : PL} {kind : Int} {k most : Nat} (h : GoodTo l kind k) (hk : l.length ≤ k) (hm : l.length ≤ most) : pairsB l most kind = true :=
  pairsB_yes (fun j hj => h.1 j hj (by omega)) (fun j hj => h.2 j hj (by omega)) hm
theorem GoodTo.long {l : PL} {kind : Int} {k most : Nat} (h : GoodTo l kind k) (hk : l.length ≤ k) : pairsB l most kind = decide (l.length ≤ most) := by
  by_cases hm : l.length ≤ most
  · rw [h.all hk hm, decide_eq_true hm]
  · rw [pairsB_long hm, decide_eq_false hm]
theorem pairsB_fall' {l : PL} {most : Nat} {kind : Int} {k : Nat} (hk : k < l.length) (h0 : k ≠ 0) (h : ltB l[k - 1].1 l[k].1 = false) : pairsB l most kind = false := by
  obtain ⟨j, rfl⟩ : ∃ j, k = j + 1 := ⟨k - 1, by omega⟩
  exact pairsB_fall hk h
theorem leB_yes {a b : ByteArray} (h : ltB b a = false) : (Op.bytesLess a.toList b.toList || a.toList == b.toList) = true := by
  cases h1 : ltB a b
  · have := ltB_total h h1
    subst this
    simp
  · unfold ltB at h1; rw [h1]; rfl
theorem leB_no {a b : ByteArray} (h : ltB b a = true) : Op.bytesLess a.toList b.toList = false ∧ (a.toList == b.toList) = false :=
  ⟨ltB_asymm h, eqB_false.2 (fun e => ltB_ne h e.symm)⟩
def FitRel (w : World) (l : PL) (kind : Int) (k : Nat) (wr : World) : Prop := GoodTo l kind k ∧ Below w.heap.size w wr

set_option maxHeartbeats 1000000 in
theorem listFits_any (v : Value) (l : PL) (kind : Int) (limit : Nat) (w : World) (hl : Lst w w.heap.size v l) (hW : Words w) (hlim : limit ≤ 1000) :
    Calls Tryd.prog 31 #[v, .int .i64 kind, .int .i64 limit] w fun e w' => e = .returned (.bool (pairsB l limit kind)) ∧ Below w.heap.size w w' := by
  obtain ⟨A, c, rfl, hc⟩ := hl.form
  have hby := hl.bytes
  have HL := Lib.hid hl
  have HW := Lib.hid hW
  clear hl hW
  by_cases hlen : l.length ≤ limit
  · have hd : decide ((limit : Int) < (l.length : Int)) = false := decide_eq_false (by omega)
    have hd' : decide (limit < l.length) = false := decide_eq_false (by omega)
    go_enter Tryd.func31, Tryd.ntmps31
    go_wp2
    go_loopw [15] (fun i wr => ∃ k : Nat, k ≤ l.length ∧ i = .int .i64 k ∧ FitRel w l kind k wr) (fun i _ => l.length - (intOf i).toNat)
    case atStart => exact ⟨0, by omega, rfl, ⟨fun j _ h => by omega, fun j _ h => by omega⟩, Below.refl _ _⟩
    case round =>
      obtain ⟨k, hk, rfl, good, bel⟩ := hrel
      by_cases hlt : k < l.length
      · obtain ⟨b, off, rfl, hb, c0, c1⟩ := HL.out.pt hlt
        obtain ⟨z0, z1⟩ := HL.out.key hlt
        have d0 := (bel.cell (p := ⟨b, off + k * 2, none⟩) hb).trans c0
        have d1 := (bel.cell (p := ⟨b, off + k * 2 + 1, none⟩) hb).trans c1
        have hbw : b < wr.heap.size := Nat.lt_of_lt_of_le hb bel.size
        have HG := Lib.hid good
        have HB := Lib.hid bel
        clear good bel c0 c1
        by_cases hk0 : k = 0
        · have g0 : decide ((0 : Int) < (k : Int)) = false := decide_eq_false (by omega)
          have g1 : decide (0 < k) = false := decide_eq_false (by omega)
          have HK := Lib.hid hk0
          clear hk0
          go_wp2
          go_quiet (fail)
          go_wp2_with fail
          have B1 := below_drewN (HB.out.alloc HB.out.size (.cells #[.string l[k].1, .string l[k].2] 50)) nq
          by_cases hce : checkE kind l[k].1 l[k].2 = 0
          · have HC := Lib.hid hce
            clear hce
            refine (check_any kind l[k].1 l[k].2 _ (by unfold maxLen; omega) (by unfold maxLen; omega) (HW.out.below B1)).mono ?_
            rw [HC.out]
            rintro e w2 ⟨rfl, hb2⟩
            go_wp2
            go_roundw
            case rel => exact ⟨k + 1, by omega, by go_num, HG.out.zero HK.out HC.out, bel_trans B1 hb2⟩
            case measure => simp [intOf]; omega
          · have HP := Lib.hid (pairsB_bad (most := limit) hlt hce)
            have hne : (checkE kind l[k].1 l[k].2 != 0) = true := bne_iff_ne.2 hce
            clear hce
            refine (check_any kind l[k].1 l[k].2 _ (by unfold maxLen; omega) (by unfold maxLen; omega) (HW.out.below B1)).mono ?_
            rintro e w2 ⟨rfl, hb2⟩
            go_wp2
            go_ret
            exact ⟨by rw [HP.out]; rfl, bel_trans B1 hb2⟩
        · obtain ⟨b', off', e', _, c0', _⟩ := HL.out.pt (k := k - 1) (by omega)
          obtain ⟨rfl, rfl⟩ : b = b' ∧ off = off' := by injection e' with e'; injection e' with e1 e2; exact ⟨e1, e2⟩
          clear e'
          have d0' := (HB.out.cell (p := ⟨b, off + (k - 1) * 2, none⟩) hb).trans c0'
          have g0 : decide ((0 : Int) < (k : Int)) = true := decide_eq_true (by omega)
          have g1 : decide (0 < k) = true := decide_eq_true (by omega)
          have q1 : IntKind.i64.wrap ((k : Int) - 1) = (k : Int) - 1 := IntWalk.i64_in _ (by omega)
          have q2 : ((k : Int) - 1).toNat = k - 1 := by omega
          have q3 : (0 : Int) ≤ (k : Int) - 1 := by omega
          have q4 : (1 : Int) ≤ (k : Int) := by omega
          have q5 : (k : Int) - 1 < (l.length : Int) := by omega
          clear c0'
          cases hq : ltB l[k - 1].1 l[k].1
          · have HP := Lib.hid (pairsB_fall' (most := limit) (kind := kind) hlt hk0 hq)
            have e1 := leB_yes hq
            clear hq
            go_wp2
            go_quiet (fail)
            go_wp2
            go_ret
            exact ⟨by rw [HP.out]; rfl, below_drewN (HB.out.alloc HB.out.size _) nq⟩
          obtain ⟨e1, e2⟩ := leB_no hq
          have HQ := Lib.hid hq
          clear hq
          go_wp2
          go_quiet (fail)
          go_wp2_with fail
          have B1 := below_drewN (HB.out.alloc HB.out.size (.cells #[.string l[k].1, .string l[k].2] 50)) nq
          by_cases hce : checkE kind l[k].1 l[k].2 = 0
          · have HC := Lib.hid hce
            clear hce
            refine (check_any kind l[k].1 l[k].2 _ (by unfold maxLen; omega) (by unfold maxLen; omega) (HW.out.below B1)).mono ?_
            rw [HC.out]
            rintro e w2 ⟨rfl, hb2⟩
            go_wp2
            go_roundw
            case rel => exact ⟨k + 1, by omega, by go_num, HG.out.succ hk0 HC.out HQ.out, bel_trans B1 hb2⟩
            case measure => simp [intOf]; omega
          · have HP := Lib.hid (pairsB_bad (most := limit) hlt hce)
            have hne : (checkE kind l[k].1 l[k].2 != 0) = true := bne_iff_ne.2 hce
            clear hce
            refine (check_any kind l[k].1 l[k].2 _ (by unfold maxLen; omega) (by unfold maxLen; omega) (HW.out.below B1)).mono ?_
            rintro e w2 ⟨rfl, hb2⟩
            go_wp2
            go_ret
            exact ⟨by rw [HP.out]; rfl, bel_trans B1 hb2⟩
      · have HP := Lib.hid (good.all (by omega) hlen)
        go_wp2
        go_ret
        exact ⟨by rw [HP.out]; rfl, bel⟩
  · have hd : decide ((limit : Int) < (l.length : Int)) = true := decide_eq_true (by omega)
    have HP := Lib.hid (pairsB_long (kind := kind) hlen)
    go_enter Tryd.func31, Tryd.ntmps31
    go_wp2
    go_ret
    exact ⟨by rw [HP.out]; rfl, Below.refl _ _⟩

set_option maxHeartbeats 1000000 in
theorem pairsMay_any (v : Value) (l : PL) (kind : Int) (most : Nat) (w : World) (hl : Lst w w.heap.size v l) (hlim : most ≤ 1000) :
    Calls Tryd.prog 47 #[v, .int .i64 most, .int .i64 kind] w fun e w' => e = .returned (.bool (pairsB l most kind)) ∧ Below w.heap.size w w' := by
  obtain ⟨A, c, rfl, hc⟩ := hl.form
  have hby := hl.bytes
  have HL := Lib.hid hl
  clear hl
  go_enter Tryd.func47, Tryd.ntmps47
  go_wp2
  go_loopw [7] (fun i wr => ∃ k : Nat, k ≤ l.length ∧ i = .int .i64 k ∧ FitRel w l kind k wr) (fun i _ => l.length - (intOf i).toNat)
  case atStart => exact ⟨0, by omega, rfl, ⟨fun j _ h => by omega, fun j _ h => by omega⟩, Below.refl _ _⟩
  case round =>
    obtain ⟨k, hk, rfl, good, bel⟩ := hrel
    by_cases hlt : k < l.length
    · obtain ⟨b, off, rfl, hb, c0, c1⟩ := HL.out.pt hlt
      obtain ⟨z0, z1⟩ := HL.out.key hlt
      have d0 := (bel.cell (p := ⟨b, off + k * 2, none⟩) hb).trans c0
      have d1 := (bel.cell (p := ⟨b, off + k * 2 + 1, none⟩) hb).trans c1
      have hbw : b < wr.heap.size := Nat.lt_of_lt_of_le hb bel.size
      have HG := Lib.hid good
      have HB := Lib.hid bel
      clear good bel c0 c1
      have kb := Below.refl wr.heap.size wr
      have s0 := d0
      have s1 := d1
      go_wp2
      go_region_held3 (fun wx => wx.cell? ⟨b, off + k * 2, none⟩ = some (.string l[k].1) ∧ wx.cell? ⟨b, off + k * 2 + 1, none⟩ = some (.string l[k].2))
        (first
          | with_reducible exact ⟨d0, d1⟩
          | with_reducible exact ⟨(kb.cell (p := ⟨b, off + k * 2, none⟩) hbw).trans s0, (kb.cell (p := ⟨b, off + k * 2 + 1, none⟩) hbw).trans s1⟩
          | exact ⟨d0, d1⟩)
        (first
          | (
            go_at_call 28
            refine (stmtFault_any kind l[k].1 l[k].2 (by unfold maxLen; omega) (by unfold maxLen; omega) _).mono ?_
            rintro e w3 ⟨rfl, hy⟩
            have kb : Below wr.heap.size wr w3 := by first | exact kb.trans (hy.mono kb.size) | exact kb.trans ⟨hy.os, hy.tape, hy.output, hy.size, fun i hi => hy.block i (Nat.lt_of_lt_of_le hi kb.size)⟩))
      have bb := HB.out.trans (kb.mono HB.out.size)
      have p0 := (kb.cell (p := ⟨b, off + k * 2, none⟩) hbw).trans s0
      by_cases hce : checkE kind l[k].1 l[k].2 = 0
      · have e0 : (checkE kind l[k].1 l[k].2 != 0) = false := by rw [hce]; rfl
        have HC := Lib.hid hce
        clear hce d0 d1 s0 s1
        by_cases hk0 : k = 0
        · have g0 : decide ((0 : Int) < (k : Int)) = false := decide_eq_false (by omega)
          have g1 : decide (0 < k) = false := decide_eq_false (by omega)
          have HK := Lib.hid hk0
          clear hk0
          go_wp2
          go_quiet (fail)
          go_wp2
          go_roundw
          case rel => exact ⟨k + 1, by omega, by go_num, HG.out.zero HK.out HC.out, below_drewN bb _⟩
          case measure => simp [intOf]; omega
        · obtain ⟨b', off', e', _, c0', _⟩ := HL.out.pt (k := k - 1) (by omega)
          obtain ⟨rfl, rfl⟩ : b = b' ∧ off = off' := by injection e' with e'; injection e' with e1 e2; exact ⟨e1, e2⟩
          clear e'
          have p0' := (bb.cell (p := ⟨b, off + (k - 1) * 2, none⟩) hb).trans c0'
          have g0 : decide ((0 : Int) < (k : Int)) = true := decide_eq_true (by omega)
          have g1 : decide (0 < k) = true := decide_eq_true (by omega)
          have q1 : IntKind.i64.wrap ((k : Int) - 1) = (k : Int) - 1 := IntWalk.i64_in _ (by omega)
          have q2 : ((k : Int) - 1).toNat = k - 1 := by omega
          have q3 : (0 : Int) ≤ (k : Int) - 1 := by omega
          have q4 : (1 : Int) ≤ (k : Int) := by omega
          have q5 : (k : Int) - 1 < (l.length : Int) := by omega
          clear c0'
          cases hq : ltB l[k - 1].1 l[k].1
          · have HP := Lib.hid (pairsB_fall' (most := most) (kind := kind) hlt hk0 hq)
            have e1 := leB_yes hq
            clear hq
            go_wp2
            go_quiet (fail)
            go_wp2
            go_ret
            exact ⟨by rw [HP.out]; rfl, below_drewN bb _⟩
          obtain ⟨e1, e2⟩ := leB_no hq
          have HQ := Lib.hid hq
          clear hq
          go_wp2
          go_quiet (fail)
          go_wp2
          go_roundw
          case rel => exact ⟨k + 1, by omega, by go_num, HG.out.succ hk0 HC.out HQ.out, below_drewN bb _⟩
          case measure => simp [intOf]; omega
      · have HP := Lib.hid (pairsB_bad (most := most) hlt hce)
        have hne : (checkE kind l[k].1 l[k].2 != 0) = true := bne_iff_ne.2 hce
        clear hce d0 d1 s0 s1
        go_wp2
        go_ret
        exact ⟨by rw [HP.out]; rfl, bb⟩
    · have HP := Lib.hid (good.long (most := most) (by omega))
      go_wp2
      go_ret
      exact ⟨by rw [HP.out]; simp, bel⟩
end Go.Proofs.YtpbaobmegomfpabDoor

/-
  Walks of back.sessionFits.
-/
namespace Go.Proofs.YtpbaobmegomfpabDoor
open Go.RowKit
set_option linter.unusedVariables false
set_option linter.unusedSimpArgs false
set_option maxRecDepth 100000

theorem sess_row' {w : World} {v0 v1 v2 v3 v4 : Value} : RowTo (w.alloc (.cells #[v0, v1, v2, v3, v4] 46)) w.heap.size 46 5 [v0, v1, v2, v3, v4] := RowTo.whole w #[v0, v1, v2, v3, v4] 46

set_option maxHeartbeats 4000000 in
theorem sessionFits_any (s : Sess) (v1 v2 v3 v4 : Value) (w : World) (h1 : Lst w w.heap.size v1 s.set) (h2 : Lst w w.heap.size v2 s.prep) (h3 : Lst w w.heap.size v3 s.sav) (h4 : Lst w w.heap.size v4 s.wr) (hW : Words w) :
    Calls Tryd.prog 32 #[.agg #[.int .i64 s.st, v1, v2, v3, v4]] w fun e w' => e = .returned (.bool (sessB s)) ∧ Below w.heap.size w w' := by
  obtain ⟨A1, c1, rfl, _⟩ := h1.form
  obtain ⟨A2, c2, rfl, _⟩ := h2.form
  obtain ⟨A3, c3, rfl, _⟩ := h3.form
  obtain ⟨A4, c4, rfl, _⟩ := h4.form
  have L1 := Lib.hid h1
  have L2 := Lib.hid h2
  have L3 := Lib.hid h3
  have L4 := Lib.hid h4
  have HW := Lib.hid hW
  clear h1 h2 h3 h4 hW
  have B0 := Lib.hid ((Below.refl w.heap.size w).alloc (Nat.le_refl _) (.cells #[.int .i64 s.st, .slice A1 s.set.length c1, .slice A2 s.prep.length c2, .slice A3 s.sav.length c3, .slice A4 s.wr.length c4] 46))
  have S0 := Lib.hid (sess_row' (w := w) (v0 := .int .i64 s.st) (v1 := .slice A1 s.set.length c1) (v2 := .slice A2 s.prep.length c2) (v3 := .slice A3 s.sav.length c3) (v4 := .slice A4 s.wr.length c4))
  by_cases hst : s.st < 0 ∨ 2 < s.st
  · have HP := Lib.hid (sessB_st (s := s) (inB_no (by omega)))
    rcases hst with hst | hst
    · have d1 : decide (s.st < 0) = true := decide_eq_true hst
      go_enter Tryd.func32, Tryd.ntmps32
      go_wp2
      go_ret
      exact ⟨by rw [HP.out]; rfl, B0.out⟩
    · have d1 : decide (s.st < 0) = false := decide_eq_false (by omega)
      have d2 : decide (2 < s.st) = true := decide_eq_true hst
      go_enter Tryd.func32, Tryd.ntmps32
      go_wp2
      go_ret
      exact ⟨by rw [HP.out]; rfl, B0.out⟩
  have d1 : decide (s.st < 0) = false := decide_eq_false (by omega)
  have d2 : decide (2 < s.st) = false := decide_eq_false (by omega)
  have H0 := Lib.hid (show inB 0 s.st 2 = true from inB_yes (by omega))
  by_cases h5 : s.st = 0 ∧ 0 < s.sav.length
  · have HP := Lib.hid (sessB_idle h5.1 h5.2)
    have e1 : (s.st == 0) = true := beq_iff_eq.2 h5.1
    have e2 : decide ((0 : Int) < (s.sav.length : Int)) = true := decide_eq_true (by omega)
    have e3 : decide (0 < s.sav.length) = true := decide_eq_true h5.2
    clear h5 hst
    go_enter Tryd.func32, Tryd.ntmps32
    go_wp2
    go_ret
    exact ⟨by rw [HP.out]; rfl, B0.out⟩
  by_cases h6 : s.st ≠ 1 ∧ 0 < s.wr.length
  · have HP := Lib.hid (sessB_tx h6.1 h6.2)
    have e1 : (s.st != 1) = true := bne_iff_ne.2 h6.1
    have e2 : decide ((0 : Int) < (s.wr.length : Int)) = true := decide_eq_true (by omega)
    have e3 : decide (0 < s.wr.length) = true := decide_eq_true h6.2
    by_cases hs0 : s.st = 0
    · have e4 : (s.st == 0) = true := beq_iff_eq.2 hs0
      have e5 : decide ((0 : Int) < (s.sav.length : Int)) = false := decide_eq_false (fun h => h5 ⟨hs0, by omega⟩)
      have e6 : decide (0 < s.sav.length) = false := decide_eq_false (fun h => h5 ⟨hs0, h⟩)
      clear h5 h6 hst hs0
      go_enter Tryd.func32, Tryd.ntmps32
      go_wp2
      go_ret
      exact ⟨by rw [HP.out]; rfl, B0.out⟩
    · have e4 : (s.st == 0) = false := beq_eq_false_iff_ne.2 hs0
      clear h5 h6 hst hs0
      go_enter Tryd.func32, Tryd.ntmps32
      go_wp2
      go_ret
      exact ⟨by rw [HP.out]; rfl, B0.out⟩
  have HG := Lib.hid (fun a b c d => sessB_ok H0.out a b c d h5 h6)
  by_cases hs1 : s.st = 1
  · have e1 : (s.st != 1) = false := by rw [hs1]; rfl
    have e4 : (s.st == 0) = false := by rw [hs1]; rfl
    clear h5 h6 hst hs1
    cases h1 : pairsB s.set 6 9
    · have HP := Lib.hid (sessB_set h1)
      have H1 := Lib.hid h1
      clear h1
      go_enter Tryd.func32, Tryd.ntmps32
      go_wp2_with fail
      refine (listFits_any _ s.set 9 6 _ (L1.out.step B0.out) (HW.out.below B0.out) (by omega)).mono ?_
      rw [H1.out]
      rintro e w3 ⟨rfl, hb3⟩
      have B1 := Lib.hid (bel_add' B0.out hb3 B0.out.size)
      have S1 := Lib.hid (S0.out.below hb3 S0.out.lt)
      have y0 := S1.out.cell (j := 3) (by simp)
      simp only [List.getElem_cons_zero, List.getElem_cons_succ] at y0
      clear hb3
      go_wp2
      go_ret
      exact ⟨by rw [HP.out]; rfl, B1.out⟩
    have H1 := Lib.hid h1
    clear h1
    cases h3 : pairsB s.sav 6 9
    · have HP := Lib.hid (sessB_sav h3)
      have H3 := Lib.hid h3
      clear h3
      go_enter Tryd.func32, Tryd.ntmps32
      go_wp2_with fail
      refine (listFits_any _ s.set 9 6 _ (L1.out.step B0.out) (HW.out.below B0.out) (by omega)).mono ?_
      rw [H1.out]
      rintro e w3 ⟨rfl, hb3⟩
      have B1 := Lib.hid (bel_add' B0.out hb3 B0.out.size)
      have S1 := Lib.hid (S0.out.below hb3 S0.out.lt)
      have y0 := S1.out.cell (j := 3) (by simp)
      simp only [List.getElem_cons_zero, List.getElem_cons_succ] at y0
      clear hb3
      go_wp2_with fail
      refine (listFits_any _ s.sav 9 6 _ (L3.out.step B1.out) (HW.out.below B1.out) (by omega)).mono ?_
      rw [H3.out]
      rintro e w4 ⟨rfl, hb4⟩
      have B2 := Lib.hid (bel_add' B1.out hb4 B1.out.size)
      have S2 := Lib.hid (S1.out.below hb4 S1.out.lt)
      have y1 := S2.out.cell (j := 2) (by simp)
      simp only [List.getElem_cons_zero, List.getElem_cons_succ] at y1
      clear hb4
      go_wp2
      go_ret
      exact ⟨by rw [HP.out]; rfl, B2.out⟩
    have H3 := Lib.hid h3
    clear h3
    cases h2 : pairsB s.prep 6 11
    · have HP := Lib.hid (sessB_prep h2)
      have H2 := Lib.hid h2
      clear h2
      go_enter Tryd.func32, Tryd.ntmps32
      go_wp2_with fail
      refine (listFits_any _ s.set 9 6 _ (L1.out.step B0.out) (HW.out.below B0.out) (by omega)).mono ?_
      rw [H1.out]
      rintro e w3 ⟨rfl, hb3⟩
      have B1 := Lib.hid (bel_add' B0.out hb3 B0.out.size)
      have S1 := Lib.hid (S0.out.below hb3 S0.out.lt)
      have y0 := S1.out.cell (j := 3) (by simp)
      simp only [List.getElem_cons_zero, List.getElem_cons_succ] at y0
      clear hb3
      go_wp2_with fail
      refine (listFits_any _ s.sav 9 6 _ (L3.out.step B1.out) (HW.out.below B1.out) (by omega)).mono ?_
      rw [H3.out]
      rintro e w4 ⟨rfl, hb4⟩
      have B2 := Lib.hid (bel_add' B1.out hb4 B1.out.size)
      have S2 := Lib.hid (S1.out.below hb4 S1.out.lt)
      have y1 := S2.out.cell (j := 2) (by simp)
      simp only [List.getElem_cons_zero, List.getElem_cons_succ] at y1
      clear hb4
      go_wp2_with fail
      refine (listFits_any _ s.prep 11 6 _ (L2.out.step B2.out) (HW.out.below B2.out) (by omega)).mono ?_
      rw [H2.out]
      rintro e w5 ⟨rfl, hb5⟩
      have B3 := Lib.hid (bel_add' B2.out hb5 B2.out.size)
      have S3 := Lib.hid (S2.out.below hb5 S2.out.lt)
      have y2 := S3.out.cell (j := 4) (by simp)
      simp only [List.getElem_cons_zero, List.getElem_cons_succ] at y2
      clear hb5
      go_wp2
      go_ret
      exact ⟨by rw [HP.out]; rfl, B3.out⟩
    have H2 := Lib.hid h2
    clear h2
    cases h4 : pairsB s.wr 100 10
    · have HP := Lib.hid (sessB_wr h4)
      have H4 := Lib.hid h4
      clear h4
      go_enter Tryd.func32, Tryd.ntmps32
      go_wp2_with fail
      refine (listFits_any _ s.set 9 6 _ (L1.out.step B0.out) (HW.out.below B0.out) (by omega)).mono ?_
      rw [H1.out]
      rintro e w3 ⟨rfl, hb3⟩
      have B1 := Lib.hid (bel_add' B0.out hb3 B0.out.size)
      have S1 := Lib.hid (S0.out.below hb3 S0.out.lt)
      have y0 := S1.out.cell (j := 3) (by simp)
      simp only [List.getElem_cons_zero, List.getElem_cons_succ] at y0
      clear hb3
      go_wp2_with fail
      refine (listFits_any _ s.sav 9 6 _ (L3.out.step B1.out) (HW.out.below B1.out) (by omega)).mono ?_
      rw [H3.out]
      rintro e w4 ⟨rfl, hb4⟩
      have B2 := Lib.hid (bel_add' B1.out hb4 B1.out.size)
      have S2 := Lib.hid (S1.out.below hb4 S1.out.lt)
      have y1 := S2.out.cell (j := 2) (by simp)
      simp only [List.getElem_cons_zero, List.getElem_cons_succ] at y1
      clear hb4
      go_wp2_with fail
      refine (listFits_any _ s.prep 11 6 _ (L2.out.step B2.out) (HW.out.below B2.out) (by omega)).mono ?_
      rw [H2.out]
      rintro e w5 ⟨rfl, hb5⟩
      have B3 := Lib.hid (bel_add' B2.out hb5 B2.out.size)
      have S3 := Lib.hid (S2.out.below hb5 S2.out.lt)
      have y2 := S3.out.cell (j := 4) (by simp)
      simp only [List.getElem_cons_zero, List.getElem_cons_succ] at y2
      clear hb5
      go_wp2_with fail
      refine (listFits_any _ s.wr 10 100 _ (L4.out.step B3.out) (HW.out.below B3.out) (by omega)).mono ?_
      rw [H4.out]
      rintro e w6 ⟨rfl, hb6⟩
      have B4 := Lib.hid (bel_add' B3.out hb6 B3.out.size)
      have S4 := Lib.hid (S3.out.below hb6 S3.out.lt)
      have y3 := S4.out.cell (j := 0) (by simp)
      simp only [List.getElem_cons_zero, List.getElem_cons_succ] at y3
      clear hb6
      go_wp2
      go_ret
      exact ⟨by rw [HP.out]; rfl, B4.out⟩
    have H4 := Lib.hid h4
    clear h4
    have HP := Lib.hid (HG.out H1.out H2.out H3.out H4.out)
    go_enter Tryd.func32, Tryd.ntmps32
    go_wp2_with fail
    refine (listFits_any _ s.set 9 6 _ (L1.out.step B0.out) (HW.out.below B0.out) (by omega)).mono ?_
    rw [H1.out]
    rintro e w3 ⟨rfl, hb3⟩
    have B1 := Lib.hid (bel_add' B0.out hb3 B0.out.size)
    have S1 := Lib.hid (S0.out.below hb3 S0.out.lt)
    have y0 := S1.out.cell (j := 3) (by simp)
    simp only [List.getElem_cons_zero, List.getElem_cons_succ] at y0
    clear hb3
    go_wp2_with fail
    refine (listFits_any _ s.sav 9 6 _ (L3.out.step B1.out) (HW.out.below B1.out) (by omega)).mono ?_
    rw [H3.out]
    rintro e w4 ⟨rfl, hb4⟩
    have B2 := Lib.hid (bel_add' B1.out hb4 B1.out.size)
    have S2 := Lib.hid (S1.out.below hb4 S1.out.lt)
    have y1 := S2.out.cell (j := 2) (by simp)
    simp only [List.getElem_cons_zero, List.getElem_cons_succ] at y1
    clear hb4
    go_wp2_with fail
    refine (listFits_any _ s.prep 11 6 _ (L2.out.step B2.out) (HW.out.below B2.out) (by omega)).mono ?_
    rw [H2.out]
    rintro e w5 ⟨rfl, hb5⟩
    have B3 := Lib.hid (bel_add' B2.out hb5 B2.out.size)
    have S3 := Lib.hid (S2.out.below hb5 S2.out.lt)
    have y2 := S3.out.cell (j := 4) (by simp)
    simp only [List.getElem_cons_zero, List.getElem_cons_succ] at y2
    clear hb5
    go_wp2_with fail
    refine (listFits_any _ s.wr 10 100 _ (L4.out.step B3.out) (HW.out.below B3.out) (by omega)).mono ?_
    rw [H4.out]
    rintro e w6 ⟨rfl, hb6⟩
    have B4 := Lib.hid (bel_add' B3.out hb6 B3.out.size)
    have S4 := Lib.hid (S3.out.below hb6 S3.out.lt)
    have y3 := S4.out.cell (j := 0) (by simp)
    simp only [List.getElem_cons_zero, List.getElem_cons_succ] at y3
    clear hb6
    go_wp2
    go_ret
    exact ⟨by rw [HP.out]; rfl, B4.out⟩
  have e1 : (s.st != 1) = true := bne_iff_ne.2 hs1
  have e2 : decide ((0 : Int) < (s.wr.length : Int)) = false := decide_eq_false (fun h => h6 ⟨hs1, by omega⟩)
  have e3 : decide (0 < s.wr.length) = false := decide_eq_false (fun h => h6 ⟨hs1, h⟩)
  by_cases hs0 : s.st = 0
  · have e4 : (s.st == 0) = true := beq_iff_eq.2 hs0
    have e5 : decide ((0 : Int) < (s.sav.length : Int)) = false := decide_eq_false (fun h => h5 ⟨hs0, by omega⟩)
    have e6 : decide (0 < s.sav.length) = false := decide_eq_false (fun h => h5 ⟨hs0, h⟩)
    clear h5 h6 hst hs1 hs0
    cases h1 : pairsB s.set 6 9
    · have HP := Lib.hid (sessB_set h1)
      have H1 := Lib.hid h1
      clear h1
      go_enter Tryd.func32, Tryd.ntmps32
      go_wp2_with fail
      refine (listFits_any _ s.set 9 6 _ (L1.out.step B0.out) (HW.out.below B0.out) (by omega)).mono ?_
      rw [H1.out]
      rintro e w3 ⟨rfl, hb3⟩
      have B1 := Lib.hid (bel_add' B0.out hb3 B0.out.size)
      have S1 := Lib.hid (S0.out.below hb3 S0.out.lt)
      have y0 := S1.out.cell (j := 3) (by simp)
      simp only [List.getElem_cons_zero, List.getElem_cons_succ] at y0
      clear hb3
      go_wp2
      go_ret
      exact ⟨by rw [HP.out]; rfl, B1.out⟩
    have H1 := Lib.hid h1
    clear h1
    cases h3 : pairsB s.sav 6 9
    · have HP := Lib.hid (sessB_sav h3)
      have H3 := Lib.hid h3
      clear h3
      go_enter Tryd.func32, Tryd.ntmps32
      go_wp2_with fail
      refine (listFits_any _ s.set 9 6 _ (L1.out.step B0.out) (HW.out.below B0.out) (by omega)).mono ?_
      rw [H1.out]
      rintro e w3 ⟨rfl, hb3⟩
      have B1 := Lib.hid (bel_add' B0.out hb3 B0.out.size)
      have S1 := Lib.hid (S0.out.below hb3 S0.out.lt)
      have y0 := S1.out.cell (j := 3) (by simp)
      simp only [List.getElem_cons_zero, List.getElem_cons_succ] at y0
      clear hb3
      go_wp2_with fail
      refine (listFits_any _ s.sav 9 6 _ (L3.out.step B1.out) (HW.out.below B1.out) (by omega)).mono ?_
      rw [H3.out]
      rintro e w4 ⟨rfl, hb4⟩
      have B2 := Lib.hid (bel_add' B1.out hb4 B1.out.size)
      have S2 := Lib.hid (S1.out.below hb4 S1.out.lt)
      have y1 := S2.out.cell (j := 2) (by simp)
      simp only [List.getElem_cons_zero, List.getElem_cons_succ] at y1
      clear hb4
      go_wp2
      go_ret
      exact ⟨by rw [HP.out]; rfl, B2.out⟩
    have H3 := Lib.hid h3
    clear h3
    cases h2 : pairsB s.prep 6 11
    · have HP := Lib.hid (sessB_prep h2)
      have H2 := Lib.hid h2
      clear h2
      go_enter Tryd.func32, Tryd.ntmps32
      go_wp2_with fail
      refine (listFits_any _ s.set 9 6 _ (L1.out.step B0.out) (HW.out.below B0.out) (by omega)).mono ?_
      rw [H1.out]
      rintro e w3 ⟨rfl, hb3⟩
      have B1 := Lib.hid (bel_add' B0.out hb3 B0.out.size)
      have S1 := Lib.hid (S0.out.below hb3 S0.out.lt)
      have y0 := S1.out.cell (j := 3) (by simp)
      simp only [List.getElem_cons_zero, List.getElem_cons_succ] at y0
      clear hb3
      go_wp2_with fail
      refine (listFits_any _ s.sav 9 6 _ (L3.out.step B1.out) (HW.out.below B1.out) (by omega)).mono ?_
      rw [H3.out]
      rintro e w4 ⟨rfl, hb4⟩
      have B2 := Lib.hid (bel_add' B1.out hb4 B1.out.size)
      have S2 := Lib.hid (S1.out.below hb4 S1.out.lt)
      have y1 := S2.out.cell (j := 2) (by simp)
      simp only [List.getElem_cons_zero, List.getElem_cons_succ] at y1
      clear hb4
      go_wp2_with fail
      refine (listFits_any _ s.prep 11 6 _ (L2.out.step B2.out) (HW.out.below B2.out) (by omega)).mono ?_
      rw [H2.out]
      rintro e w5 ⟨rfl, hb5⟩
      have B3 := Lib.hid (bel_add' B2.out hb5 B2.out.size)
      have S3 := Lib.hid (S2.out.below hb5 S2.out.lt)
      have y2 := S3.out.cell (j := 4) (by simp)
      simp only [List.getElem_cons_zero, List.getElem_cons_succ] at y2
      clear hb5
      go_wp2
      go_ret
      exact ⟨by rw [HP.out]; rfl, B3.out⟩
    have H2 := Lib.hid h2
    clear h2
    cases h4 : pairsB s.wr 100 10
    · have HP := Lib.hid (sessB_wr h4)
      have H4 := Lib.hid h4
      clear h4
      go_enter Tryd.func32, Tryd.ntmps32
      go_wp2_with fail
      refine (listFits_any _ s.set 9 6 _ (L1.out.step B0.out) (HW.out.below B0.out) (by omega)).mono ?_
      rw [H1.out]
      rintro e w3 ⟨rfl, hb3⟩
      have B1 := Lib.hid (bel_add' B0.out hb3 B0.out.size)
      have S1 := Lib.hid (S0.out.below hb3 S0.out.lt)
      have y0 := S1.out.cell (j := 3) (by simp)
      simp only [List.getElem_cons_zero, List.getElem_cons_succ] at y0
      clear hb3
      go_wp2_with fail
      refine (listFits_any _ s.sav 9 6 _ (L3.out.step B1.out) (HW.out.below B1.out) (by omega)).mono ?_
      rw [H3.out]
      rintro e w4 ⟨rfl, hb4⟩
      have B2 := Lib.hid (bel_add' B1.out hb4 B1.out.size)
      have S2 := Lib.hid (S1.out.below hb4 S1.out.lt)
      have y1 := S2.out.cell (j := 2) (by simp)
      simp only [List.getElem_cons_zero, List.getElem_cons_succ] at y1
      clear hb4
      go_wp2_with fail
      refine (listFits_any _ s.prep 11 6 _ (L2.out.step B2.out) (HW.out.below B2.out) (by omega)).mono ?_
      rw [H2.out]
      rintro e w5 ⟨rfl, hb5⟩
      have B3 := Lib.hid (bel_add' B2.out hb5 B2.out.size)
      have S3 := Lib.hid (S2.out.below hb5 S2.out.lt)
      have y2 := S3.out.cell (j := 4) (by simp)
      simp only [List.getElem_cons_zero, List.getElem_cons_succ] at y2
      clear hb5
      go_wp2_with fail
      refine (listFits_any _ s.wr 10 100 _ (L4.out.step B3.out) (HW.out.below B3.out) (by omega)).mono ?_
      rw [H4.out]
      rintro e w6 ⟨rfl, hb6⟩
      have B4 := Lib.hid (bel_add' B3.out hb6 B3.out.size)
      have S4 := Lib.hid (S3.out.below hb6 S3.out.lt)
      have y3 := S4.out.cell (j := 0) (by simp)
      simp only [List.getElem_cons_zero, List.getElem_cons_succ] at y3
      clear hb6
      go_wp2
      go_ret
      exact ⟨by rw [HP.out]; rfl, B4.out⟩
    have H4 := Lib.hid h4
    clear h4
    have HP := Lib.hid (HG.out H1.out H2.out H3.out H4.out)
    go_enter Tryd.func32, Tryd.ntmps32
    go_wp2_with fail
    refine (listFits_any _ s.set 9 6 _ (L1.out.step B0.out) (HW.out.below B0.out) (by omega)).mono ?_
    rw [H1.out]
    rintro e w3 ⟨rfl, hb3⟩
    have B1 := Lib.hid (bel_add' B0.out hb3 B0.out.size)
    have S1 := Lib.hid (S0.out.below hb3 S0.out.lt)
    have y0 := S1.out.cell (j := 3) (by simp)
    simp only [List.getElem_cons_zero, List.getElem_cons_succ] at y0
    clear hb3
    go_wp2_with fail
    refine (listFits_any _ s.sav 9 6 _ (L3.out.step B1.out) (HW.out.below B1.out) (by omega)).mono ?_
    rw [H3.out]
    rintro e w4 ⟨rfl, hb4⟩
    have B2 := Lib.hid (bel_add' B1.out hb4 B1.out.size)
    have S2 := Lib.hid (S1.out.below hb4 S1.out.lt)
    have y1 := S2.out.cell (j := 2) (by simp)
    simp only [List.getElem_cons_zero, List.getElem_cons_succ] at y1
    clear hb4
    go_wp2_with fail
    refine (listFits_any _ s.prep 11 6 _ (L2.out.step B2.out) (HW.out.below B2.out) (by omega)).mono ?_
    rw [H2.out]
    rintro e w5 ⟨rfl, hb5⟩
    have B3 := Lib.hid (bel_add' B2.out hb5 B2.out.size)
    have S3 := Lib.hid (S2.out.below hb5 S2.out.lt)
    have y2 := S3.out.cell (j := 4) (by simp)
    simp only [List.getElem_cons_zero, List.getElem_cons_succ] at y2
    clear hb5
    go_wp2_with fail
    refine (listFits_any _ s.wr 10 100 _ (L4.out.step B3.out) (HW.out.below B3.out) (by omega)).mono ?_
    rw [H4.out]
    rintro e w6 ⟨rfl, hb6⟩
    have B4 := Lib.hid (bel_add' B3.out hb6 B3.out.size)
    have S4 := Lib.hid (S3.out.below hb6 S3.out.lt)
    have y3 := S4.out.cell (j := 0) (by simp)
    simp only [List.getElem_cons_zero, List.getElem_cons_succ] at y3
    clear hb6
    go_wp2
    go_ret
    exact ⟨by rw [HP.out]; rfl, B4.out⟩
  · have e4 : (s.st == 0) = false := beq_eq_false_iff_ne.2 hs0
    clear h5 h6 hst hs1 hs0
    cases h1 : pairsB s.set 6 9
    · have HP := Lib.hid (sessB_set h1)
      have H1 := Lib.hid h1
      clear h1
      go_enter Tryd.func32, Tryd.ntmps32
      go_wp2_with fail
      refine (listFits_any _ s.set 9 6 _ (L1.out.step B0.out) (HW.out.below B0.out) (by omega)).mono ?_
      rw [H1.out]
      rintro e w3 ⟨rfl, hb3⟩
      have B1 := Lib.hid (bel_add' B0.out hb3 B0.out.size)
      have S1 := Lib.hid (S0.out.below hb3 S0.out.lt)
      have y0 := S1.out.cell (j := 3) (by simp)
      simp only [List.getElem_cons_zero, List.getElem_cons_succ] at y0
      clear hb3
      go_wp2
      go_ret
      exact ⟨by rw [HP.out]; rfl, B1.out⟩
    have H1 := Lib.hid h1
    clear h1
    cases h3 : pairsB s.sav 6 9
    · have HP := Lib.hid (sessB_sav h3)
      have H3 := Lib.hid h3
      clear h3
      go_enter Tryd.func32, Tryd.ntmps32
      go_wp2_with fail
      refine (listFits_any _ s.set 9 6 _ (L1.out.step B0.out) (HW.out.below B0.out) (by omega)).mono ?_
      rw [H1.out]
      rintro e w3 ⟨rfl, hb3⟩
      have B1 := Lib.hid (bel_add' B0.out hb3 B0.out.size)
      have S1 := Lib.hid (S0.out.below hb3 S0.out.lt)
      have y0 := S1.out.cell (j := 3) (by simp)
      simp only [List.getElem_cons_zero, List.getElem_cons_succ] at y0
      clear hb3
      go_wp2_with fail
      refine (listFits_any _ s.sav 9 6 _ (L3.out.step B1.out) (HW.out.below B1.out) (by omega)).mono ?_
      rw [H3.out]
      rintro e w4 ⟨rfl, hb4⟩
      have B2 := Lib.hid (bel_add' B1.out hb4 B1.out.size)
      have S2 := Lib.hid (S1.out.below hb4 S1.out.lt)
      have y1 := S2.out.cell (j := 2) (by simp)
      simp only [List.getElem_cons_zero, List.getElem_cons_succ] at y1
      clear hb4
      go_wp2
      go_ret
      exact ⟨by rw [HP.out]; rfl, B2.out⟩
    have H3 := Lib.hid h3
    clear h3
    cases h2 : pairsB s.prep 6 11
    · have HP := Lib.hid (sessB_prep h2)
      have H2 := Lib.hid h2
      clear h2
      go_enter Tryd.func32, Tryd.ntmps32
      go_wp2_with fail
      refine (listFits_any _ s.set 9 6 _ (L1.out.step B0.out) (HW.out.below B0.out) (by omega)).mono ?_
      rw [H1.out]
      rintro e w3 ⟨rfl, hb3⟩
      have B1 := Lib.hid (bel_add' B0.out hb3 B0.out.size)
      have S1 := Lib.hid (S0.out.below hb3 S0.out.lt)
      have y0 := S1.out.cell (j := 3) (by simp)
      simp only [List.getElem_cons_zero, List.getElem_cons_succ] at y0
      clear hb3
      go_wp2_with fail
      refine (listFits_any _ s.sav 9 6 _ (L3.out.step B1.out) (HW.out.below B1.out) (by omega)).mono ?_
      rw [H3.out]
      rintro e w4 ⟨rfl, hb4⟩
      have B2 := Lib.hid (bel_add' B1.out hb4 B1.out.size)
      have S2 := Lib.hid (S1.out.below hb4 S1.out.lt)
      have y1 := S2.out.cell (j := 2) (by simp)
      simp only [List.getElem_cons_zero, List.getElem_cons_succ] at y1
      clear hb4
      go_wp2_with fail
      refine (listFits_any _ s.prep 11 6 _ (L2.out.step B2.out) (HW.out.below B2.out) (by omega)).mono ?_
      rw [H2.out]
      rintro e w5 ⟨rfl, hb5⟩
      have B3 := Lib.hid (bel_add' B2.out hb5 B2.out.size)
      have S3 := Lib.hid (S2.out.below hb5 S2.out.lt)
      have y2 := S3.out.cell (j := 4) (by simp)
      simp only [List.getElem_cons_zero, List.getElem_cons_succ] at y2
      clear hb5
      go_wp2
      go_ret
      exact ⟨by rw [HP.out]; rfl, B3.out⟩
    have H2 := Lib.hid h2
    clear h2
    cases h4 : pairsB s.wr 100 10
    · have HP := Lib.hid (sessB_wr h4)
      have H4 := Lib.hid h4
      clear h4
      go_enter Tryd.func32, Tryd.ntmps32
      go_wp2_with fail
      refine (listFits_any _ s.set 9 6 _ (L1.out.step B0.out) (HW.out.below B0.out) (by omega)).mono ?_
      rw [H1.out]
      rintro e w3 ⟨rfl, hb3⟩
      have B1 := Lib.hid (bel_add' B0.out hb3 B0.out.size)
      have S1 := Lib.hid (S0.out.below hb3 S0.out.lt)
      have y0 := S1.out.cell (j := 3) (by simp)
      simp only [List.getElem_cons_zero, List.getElem_cons_succ] at y0
      clear hb3
      go_wp2_with fail
      refine (listFits_any _ s.sav 9 6 _ (L3.out.step B1.out) (HW.out.below B1.out) (by omega)).mono ?_
      rw [H3.out]
      rintro e w4 ⟨rfl, hb4⟩
      have B2 := Lib.hid (bel_add' B1.out hb4 B1.out.size)
      have S2 := Lib.hid (S1.out.below hb4 S1.out.lt)
      have y1 := S2.out.cell (j := 2) (by simp)
      simp only [List.getElem_cons_zero, List.getElem_cons_succ] at y1
      clear hb4
      go_wp2_with fail
      refine (listFits_any _ s.prep 11 6 _ (L2.out.step B2.out) (HW.out.below B2.out) (by omega)).mono ?_
      rw [H2.out]
      rintro e w5 ⟨rfl, hb5⟩
      have B3 := Lib.hid (bel_add' B2.out hb5 B2.out.size)
      have S3 := Lib.hid (S2.out.below hb5 S2.out.lt)
      have y2 := S3.out.cell (j := 4) (by simp)
      simp only [List.getElem_cons_zero, List.getElem_cons_succ] at y2
      clear hb5
      go_wp2_with fail
      refine (listFits_any _ s.wr 10 100 _ (L4.out.step B3.out) (HW.out.below B3.out) (by omega)).mono ?_
      rw [H4.out]
      rintro e w6 ⟨rfl, hb6⟩
      have B4 := Lib.hid (bel_add' B3.out hb6 B3.out.size)
      have S4 := Lib.hid (S3.out.below hb6 S3.out.lt)
      have y3 := S4.out.cell (j := 0) (by simp)
      simp only [List.getElem_cons_zero, List.getElem_cons_succ] at y3
      clear hb6
      go_wp2
      go_ret
      exact ⟨by rw [HP.out]; rfl, B4.out⟩
    have H4 := Lib.hid h4
    clear h4
    have HP := Lib.hid (HG.out H1.out H2.out H3.out H4.out)
    go_enter Tryd.func32, Tryd.ntmps32
    go_wp2_with fail
    refine (listFits_any _ s.set 9 6 _ (L1.out.step B0.out) (HW.out.below B0.out) (by omega)).mono ?_
    rw [H1.out]
    rintro e w3 ⟨rfl, hb3⟩
    have B1 := Lib.hid (bel_add' B0.out hb3 B0.out.size)
    have S1 := Lib.hid (S0.out.below hb3 S0.out.lt)
    have y0 := S1.out.cell (j := 3) (by simp)
    simp only [List.getElem_cons_zero, List.getElem_cons_succ] at y0
    clear hb3
    go_wp2_with fail
    refine (listFits_any _ s.sav 9 6 _ (L3.out.step B1.out) (HW.out.below B1.out) (by omega)).mono ?_
    rw [H3.out]
    rintro e w4 ⟨rfl, hb4⟩
    have B2 := Lib.hid (bel_add' B1.out hb4 B1.out.size)
    have S2 := Lib.hid (S1.out.below hb4 S1.out.lt)
    have y1 := S2.out.cell (j := 2) (by simp)
    simp only [List.getElem_cons_zero, List.getElem_cons_succ] at y1
    clear hb4
    go_wp2_with fail
    refine (listFits_any _ s.prep 11 6 _ (L2.out.step B2.out) (HW.out.below B2.out) (by omega)).mono ?_
    rw [H2.out]
    rintro e w5 ⟨rfl, hb5⟩
    have B3 := Lib.hid (bel_add' B2.out hb5 B2.out.size)
    have S3 := Lib.hid (S2.out.below hb5 S2.out.lt)
    have y2 := S3.out.cell (j := 4) (by simp)
    simp only [List.getElem_cons_zero, List.getElem_cons_succ] at y2
    clear hb5
    go_wp2_with fail
    refine (listFits_any _ s.wr 10 100 _ (L4.out.step B3.out) (HW.out.below B3.out) (by omega)).mono ?_
    rw [H4.out]
    rintro e w6 ⟨rfl, hb6⟩
    have B4 := Lib.hid (bel_add' B3.out hb6 B3.out.size)
    have S4 := Lib.hid (S3.out.below hb6 S3.out.lt)
    have y3 := S4.out.cell (j := 0) (by simp)
    simp only [List.getElem_cons_zero, List.getElem_cons_succ] at y3
    clear hb6
    go_wp2
    go_ret
    exact ⟨by rw [HP.out]; rfl, B4.out⟩
end Go.Proofs.YtpbaobmegomfpabDoor

/-
  Walks of back.Check.
-/
namespace Go.Proofs.YtpbaobmegomfpabDoor
open Go.RowKit
set_option linter.unusedVariables false
set_option linter.unusedSimpArgs false
set_option maxRecDepth 100000

/-- what back.Check finds -/
def checkW (W : Wd) : Int := if worldB W then 0 else 5
theorem checkW_no {W : Wd} (h : worldB W = false) : checkW W = 5 := by unfold checkW; rw [h]; rfl
theorem checkW_ok {W : Wd} (h : worldB W = true) : checkW W = 0 := by unfold checkW; rw [h]; rfl
def ChkRel (w : World) (W : Wd) (r s : Value) (i : Nat) (wr : World) : Prop := (∀ j (hj : j < W.ss.length), j < i → sessB W.ss[j] = true) ∧ AllBox w r s wr ∧ Below w.heap.size w wr
theorem worldB_fit {W : Wd} (h1 : pairsB W.rows 100 10 = true) (h2 : W.ss.length ≤ 8) (h3 : ∀ i (hi : i < W.ss.length), sessB W.ss[i] = true) : worldB W = (cntOk W && decide ((allL W).length ≤ 100)) := by
  have hall : W.ss.all sessB = true := by
    rw [List.all_eq_true]; intro s hs
    obtain ⟨i, hi, rfl⟩ := List.getElem_of_mem hs
    exact h3 i hi
  rw [cntOk_apart (fun i hi => (pairsB_rising (sessB_iff.1 (h3 i hi)).wr).1)]
  unfold worldB
  rw [h1, decide_eq_true h2, hall]; rfl

set_option maxHeartbeats 4000000 in
theorem backCheck_any (r s : Value) (W : Wd) (w : World) (hW : Wld w w.heap.size r s W) (hWo : Words w) :
    Calls Tryd.prog 16 #[.agg #[r, s]] w fun e w' => e = .returned (.int .i64 (checkW W)) ∧ Below w.heap.size w w' := by
  have HWW := Lib.hid hW
  have HWo := Lib.hid hWo
  obtain ⟨hr, hs⟩ := hW
  obtain ⟨A, c, rfl, hc⟩ := hs.form
  obtain ⟨D, d, rfl, hd⟩ := hr.form
  have hby := hs.bytes
  have HS := Lib.hid hs
  have HR := Lib.hid hr
  clear hs hr hWo
  have b0 : Below w.heap.size w (w.alloc (.cells #[.slice D W.rows.length d, .slice A W.ss.length c] 25)) := (Below.refl _ _).alloc (Nat.le_refl _) _
  have HX := Lib.hid (RowTo.whole w #[.slice D W.rows.length d, .slice A W.ss.length c] 25)
  by_cases h8 : W.ss.length ≤ 8
  case neg =>
    have HP := Lib.hid (checkW_no (worldB_many h8))
    have hd8 : decide ((8 : Int) < (W.ss.length : Int)) = true := decide_eq_true (by omega)
    have hd8' : decide (8 < W.ss.length) = true := decide_eq_true (by omega)
    go_enter Tryd.func16, Tryd.ntmps16
    go_wp2
    go_ret
    exact ⟨by rw [HP.out]; rfl, b0⟩
  have hd8 : decide ((8 : Int) < (W.ss.length : Int)) = false := decide_eq_false (by omega)
  have hd8' : decide (8 < W.ss.length) = false := decide_eq_false (by omega)
  cases hp : pairsB W.rows 100 10
  · have HP := Lib.hid (checkW_no (worldB_rows hp))
    have HPB := Lib.hid hp
    clear hp
    go_enter Tryd.func16, Tryd.ntmps16
    go_wp2_with fail
    refine (listFits_any _ W.rows 10 100 _ (HR.out.step b0) (HWo.out.below b0) (by omega)).mono ?_
    rw [HPB.out]
    rintro e w1 ⟨rfl, hb1⟩
    go_wp2
    go_ret
    exact ⟨by rw [HP.out]; rfl, bel_add' b0 hb1 b0.size⟩
  have HPB := Lib.hid hp
  clear hp
  go_enter Tryd.func16, Tryd.ntmps16
  go_wp2_with fail
  refine (listFits_any _ W.rows 10 100 _ (HR.out.step b0) (HWo.out.below b0) (by omega)).mono ?_
  rw [HPB.out]
  rintro e w1 ⟨rfl, hb1⟩
  have HX1 := HX.out.below hb1 HX.out.lt
  have x1 := HX1.cell (j := 1) (by simp)
  simp only [List.getElem_cons_zero, List.getElem_cons_succ] at x1
  have HXX := Lib.hid HX1
  have HBB := Lib.hid (bel_add' b0 hb1 b0.size)
  clear HX1 HX hb1
  go_wp2
  clear x1
  go_loopw [18] (fun i wr => ∃ k : Nat, k ≤ W.ss.length ∧ i = .int .i64 k ∧ ChkRel w W (.slice D W.rows.length d) (.slice A W.ss.length c) k wr) (fun i _ => W.ss.length - (intOf i).toNat)
  case atStart => exact ⟨0, by omega, rfl, fun j hj h => by omega, HXX.out, HBB.out⟩
  case round =>
    clear HXX HBB b0
    obtain ⟨i, hi, rfl, hok, hbox, bel⟩ := hrel
    have x0 := hbox.cell (j := 0) (by simp)
    have x1 := hbox.cell (j := 1) (by simp)
    simp only [List.getElem_cons_zero, List.getElem_cons_succ] at x0 x1
    have hxl := hbox.lt
    have HOK := Lib.hid hok
    have HX := Lib.hid hbox
    have HB := Lib.hid bel
    clear hok hbox bel
    by_cases hlt : i < W.ss.length
    · obtain ⟨b, off, v1, v2, v3, v4, rfl, hb, hses⟩ := HS.out.pt hlt
      have HW1 := Lib.hid (fun h => worldB_sess (W := W) hlt h)
      have HOK1 := Lib.hid (fun (h : sessB W.ss[i] = true) => (fun j hj hji => if e : j = i then by subst e; exact h else HOK.out j hj (by omega) : ∀ j (hj : j < W.ss.length), j < i + 1 → sessB W.ss[j] = true))
      generalize hsk : W.ss[i] = s at *
      obtain ⟨d0, d1, d2, d3, d4, l1, l2, l3, l4⟩ := hses.keep (w' := wr) hb (Nat.le_refl _) fun p hp => HB.out.cell hp
      obtain ⟨A1, c1, rfl, _⟩ := l1.form
      obtain ⟨A2, c2, rfl, _⟩ := l2.form
      obtain ⟨A3, c3, rfl, _⟩ := l3.form
      obtain ⟨A4, c4, rfl, _⟩ := l4.form
      have HL := Lib.hid hses
      clear l1 l2 l3 l4 hses hsk
      have B0 := Lib.hid (HB.out.alloc HB.out.size (.cells #[.int .i64 s.st, .slice A1 s.set.length c1, .slice A2 s.prep.length c2, .slice A3 s.sav.length c3, .slice A4 s.wr.length c4] 46))
      have X0 := Lib.hid (RowTo.alloc HX.out (.cells #[.int .i64 s.st, .slice A1 s.set.length c1, .slice A2 s.prep.length c2, .slice A3 s.sav.length c3, .slice A4 s.wr.length c4] 46))
      cases hb : sessB s
      · have HP := Lib.hid (checkW_no (HW1.out hb))
        have HQ := Lib.hid hb
        clear hb
        go_wp2_with fail
        refine (sessionFits_any s _ _ _ _ _ (HL.out.l1.step B0.out) (HL.out.l2.step B0.out) (HL.out.l3.step B0.out) (HL.out.l4.step B0.out) (HWo.out.below B0.out)).mono ?_
        rw [HQ.out]
        rintro e w2 ⟨rfl, hb2⟩
        go_wp2
        go_ret
        exact ⟨by rw [HP.out]; rfl, bel_add' B0.out hb2 B0.out.size⟩
      · have HT := Lib.hid (HOK1.out hb)
        have HQ := Lib.hid hb
        clear hb
        go_wp2_with fail
        refine (sessionFits_any s _ _ _ _ _ (HL.out.l1.step B0.out) (HL.out.l2.step B0.out) (HL.out.l3.step B0.out) (HL.out.l4.step B0.out) (HWo.out.below B0.out)).mono ?_
        rw [HQ.out]
        rintro e w2 ⟨rfl, hb2⟩
        have HB2 := Lib.hid (bel_add' B0.out hb2 B0.out.size)
        have HX2 := Lib.hid (X0.out.below hb2 X0.out.lt)
        clear hb2
        go_wp2
        go_roundw
        case rel => exact ⟨i + 1, by omega, by go_num, HT.out, HX2.out, HB2.out⟩
        case measure => simp [intOf]; omega
    · have hall : ∀ j (hj : j < W.ss.length), sessB W.ss[j] = true := fun j hj => HOK.out j hj (by omega)
      have HL := Lib.hid (worldB_fit HPB.out h8 hall)
      have hpr := pairsB_rising HPB.out
      have hwr : ∀ j (hj : j < W.ss.length), W.ss[j].wr.length ≤ 100 := fun j hj => (pairsB_rising (sessB_iff.1 (hall j hj)).wr).2.1
      have HF := Lib.hid (fun (w9 : World) (h9 : Wld w9 w9.heap.size (.slice D W.rows.length d) (.slice A W.ss.length c) W) => rowsFit_any _ _ W w9 h9 hpr.2.1 hpr.1 h8 hwr)
      clear hall hpr hwr
      cases hf : (cntOk W && decide ((allL W).length ≤ 100))
      · have HP := Lib.hid (checkW_no (HL.out.trans hf))
        have HQ := Lib.hid hf
        clear hf
        go_wp2_with fail
        refine (HF.out _ (HWW.out.step HB.out)).mono ?_
        rw [HQ.out]
        rintro e w2 ⟨rfl, hb2⟩
        go_wp2
        go_ret
        exact ⟨by rw [HP.out]; rfl, bel_add' HB.out hb2 HB.out.size⟩
      · have HP := Lib.hid (checkW_ok (HL.out.trans hf))
        have HQ := Lib.hid hf
        clear hf
        go_wp2_with fail
        refine (HF.out _ (HWW.out.step HB.out)).mono ?_
        rw [HQ.out]
        rintro e w2 ⟨rfl, hb2⟩
        go_wp2
        go_ret
        exact ⟨by rw [HP.out]; rfl, bel_add' HB.out hb2 HB.out.size⟩
end Go.Proofs.YtpbaobmegomfpabDoor

/-
  back.checkDo.
-/
namespace Go.Proofs.YtpbaobmegomfpabDoor
open Go.RowKit
set_option linter.unusedVariables false
set_option linter.unusedSimpArgs false
set_option maxRecDepth 100000

set_option maxHeartbeats 2000000 in
theorem checkDo_any (r s : Value) (W : Wd) (i k : Int) (key val : ByteArray) (w : World) (hW : Wld w w.heap.size r s W) (hWo : Words w) (hkz : key.size ≤ maxLen) (hvz : val.size ≤ maxLen) :
    Calls Tryd.prog 22 #[.agg #[r, s], .int .i64 i, .agg #[.int .i64 k, .string key, .string val]] w fun e w' => e = .returned (.int .i64 (doE W i k key val)) ∧ Below w.heap.size w w' := by
  obtain ⟨A, c, rfl, hc⟩ := hW.sess.form
  obtain ⟨D, d, rfl, hd⟩ := hW.rows.form
  have b0 : Below w.heap.size w ((w.alloc (.cells #[.slice D W.rows.length d, .slice A W.ss.length c] 25)).alloc (.cells #[.int .i64 k, .string key, .string val] 27)) := ((Below.refl _ _).alloc (Nat.le_refl _) _).alloc (by simp) _
  have X0 : RowTo ((w.alloc (.cells #[.slice D W.rows.length d, .slice A W.ss.length c] 25)).alloc (.cells #[.int .i64 k, .string key, .string val] 27)) w.heap.size 25 2 [.slice D W.rows.length d, .slice A W.ss.length c] := (RowTo.whole w #[.slice D W.rows.length d, .slice A W.ss.length c] 25).alloc _
  have Y0 : RowTo ((w.alloc (.cells #[.slice D W.rows.length d, .slice A W.ss.length c] 25)).alloc (.cells #[.int .i64 k, .string key, .string val] 27)) (w.heap.size + 1) 27 3 [.int .i64 k, .string key, .string val] := by
    have := RowTo.whole (w.alloc (.cells #[.slice D W.rows.length d, .slice A W.ss.length c] 25)) #[.int .i64 k, .string key, .string val] 27
    simpa using this
  have HC := Lib.hid (backCheck_any _ _ W _ (hW.step b0) (hWo.below b0))
  have HWo := Lib.hid hWo
  have B0 := Lib.hid b0
  have HX0 := Lib.hid X0
  have HY0 := Lib.hid Y0
  clear hW hWo b0 X0 Y0
  cases hb : worldB W
  · have HD := Lib.hid (show doE W i k key val = 5 by unfold doE; rw [if_pos hb])
    have HB := Lib.hid (checkW_no hb)
    clear hb
    go_enter Tryd.func22, Tryd.ntmps22
    go_wp2_with fail
    refine HC.out.mono ?_
    rw [HB.out]
    rintro e w1 ⟨rfl, hb1⟩
    have B1 := Lib.hid (bel_add' B0.out hb1 B0.out.size)
    clear hb1
    go_wp2
    go_ret
    exact ⟨by rw [HD.out]; rfl, B1.out⟩
  have HB := Lib.hid (checkW_ok hb)
  have hcase : (i < 0 ∧ doE W i k key val = 6) ∨ (0 ≤ i ∧ (W.ss.length : Int) ≤ i ∧ doE W i k key val = 6) ∨ (0 ≤ i ∧ i < (W.ss.length : Int) ∧ doE W i k key val = checkE k key val) := by
    unfold doE
    rw [if_neg (by rw [hb]; simp)]
    by_cases h1 : i < 0
    · left; exact ⟨h1, if_pos (.inl h1)⟩
    · right
      by_cases h2 : (W.ss.length : Int) ≤ i
      · left; exact ⟨by omega, h2, if_pos (.inr h2)⟩
      · right; exact ⟨by omega, by omega, if_neg (by omega)⟩
  clear hb
  rcases hcase with ⟨h1, hd⟩ | ⟨h1, h2, hd⟩ | ⟨h1, h2, hd⟩
  · have HD := Lib.hid hd
    have t1 : decide (i < 0) = true := decide_eq_true h1
    clear hd
    go_enter Tryd.func22, Tryd.ntmps22
    go_wp2_with fail
    refine HC.out.mono ?_
    rw [HB.out]
    rintro e w1 ⟨rfl, hb1⟩
    have B1 := Lib.hid (bel_add' B0.out hb1 B0.out.size)
    have X1 := HX0.out.below hb1 HX0.out.lt
    have c1 := X1.cell (j := 1) (by simp)
    simp only [List.getElem_cons_zero, List.getElem_cons_succ] at c1
    clear hb1 X1
    go_wp2
    go_ret
    exact ⟨by rw [HD.out]; rfl, B1.out⟩
  · have HD := Lib.hid hd
    have t1 : decide (i < 0) = false := decide_eq_false (by omega)
    have t2 : decide ((W.ss.length : Int) ≤ i) = true := decide_eq_true h2
    clear hd
    go_enter Tryd.func22, Tryd.ntmps22
    go_wp2_with fail
    refine HC.out.mono ?_
    rw [HB.out]
    rintro e w1 ⟨rfl, hb1⟩
    have B1 := Lib.hid (bel_add' B0.out hb1 B0.out.size)
    have X1 := HX0.out.below hb1 HX0.out.lt
    have c1 := X1.cell (j := 1) (by simp)
    simp only [List.getElem_cons_zero, List.getElem_cons_succ] at c1
    clear hb1 X1
    go_wp2
    go_ret
    exact ⟨by rw [HD.out]; rfl, B1.out⟩
  · have HD := Lib.hid hd
    have t1 : decide (i < 0) = false := decide_eq_false (by omega)
    have t2 : decide ((W.ss.length : Int) ≤ i) = false := decide_eq_false (by omega)
    clear hd
    go_enter Tryd.func22, Tryd.ntmps22
    go_wp2_with fail
    refine HC.out.mono ?_
    rw [HB.out]
    rintro e w1 ⟨rfl, hb1⟩
    have B1 := Lib.hid (bel_add' B0.out hb1 B0.out.size)
    have X1 := HX0.out.below hb1 HX0.out.lt
    have c1 := X1.cell (j := 1) (by simp)
    have Y1 := HY0.out.below hb1 HY0.out.lt
    have y0 := Y1.cell (j := 0) (by simp)
    have y1 := Y1.cell (j := 1) (by simp)
    have y2 := Y1.cell (j := 2) (by simp)
    simp only [List.getElem_cons_zero, List.getElem_cons_succ] at c1 y0 y1 y2
    clear hb1 X1 Y1
    go_wp2_with fail
    refine (check_any k key val _ hkz hvz (HWo.out.below B1.out)).mono ?_
    rintro e w2 ⟨rfl, hb2⟩
    have B2 := Lib.hid (bel_add' B1.out hb2 B1.out.size)
    clear hb2
    go_wp2
    go_ret
    exact ⟨by rw [HD.out]; rfl, B2.out⟩

end Go.Proofs.YtpbaobmegomfpabDoor

/-
  Walks of back.Copy.
-/
namespace Go.Proofs.YtpbaobmegomfpabDoor
open Go.RowKit
set_option linter.unusedVariables false
set_option maxRecDepth 100000

theorem sess_info : (Tryd.prog.info? 46).map (fun i => (i.zero, i.size, i.bytes)) = some (some (.agg #[.int .i64 0, .slice none 0 0, .slice none 0 0, .slice none 0 0, .slice none 0 0]), 5, 104) := by kernel_rfl
theorem make_sess (n : Nat) (h : n * 104 ≤ 140737488351232) (w : World) :
    (Instr.makeSlice 23 (.int .i64 (n : Int)) (.int .i64 (n : Int))).run Tryd.prog w = .ok (.slice (some ⟨w.heap.size, 0, none⟩) n n) (w.alloc (.cells (madeCells (Value.agg #[.int .i64 0, .slice none 0 0, .slice none 0 0, .slice none 0 0, .slice none 0 0]).cells (n * 5)) 46)) := by
  obtain ⟨i0, hi, hz0, hz1, hz2⟩ := info_parts sess_info
  have hr := run_make (P := Tryd.prog) w 23 46 i0 _ Tryd.underlying23 hi hz0 .i64 .i64 (n : Int) (n : Int) (by omega) (Int.le_refl _) (by rw [hz2]; omega) (by omega)
  rw [hz1] at hr
  simpa only [Int.toNat_natCast] using hr

/-- a copy in blocks of its own -/
structure OwnW (w : World) (base gR S : Nat) (G : Nat → Nat → Nat) (W : Wd) : Prop where
  rows : RowTo w gR 50 (W.rows.length * 2) (flat W.rows)
  sess : OwnS w base S W.ss.length G W.ss W.ss.length
  loR : base ≤ gR
  loS : base ≤ S
  neS : gR ≠ S
  neG : ∀ i j, i < W.ss.length → j < 4 → G i j ≠ gR
def CopyPost (w : World) (W : Wd) (e : Ending) (w' : World) : Prop :=
  ∃ gR S G, e = .returned (.agg #[sl gR W.rows.length, sl S W.ss.length]) ∧ OwnW w' w.heap.size gR S G W ∧ Below w.heap.size w w'

theorem cell_set5' {w : World} {b R i o : Nat} {u a0 a1 a2 a3 a4 : Value} (h : w.cell? ⟨b, i, none⟩ = some u) (hne : b ≠ R) :
    (((((w.setCell ⟨R, o, none⟩ a0).setCell ⟨R, o + 1, none⟩ a1).setCell ⟨R, o + 2, none⟩ a2).setCell ⟨R, o + 3, none⟩ a3).setCell ⟨R, o + 4, none⟩ a4).cell? ⟨b, i, none⟩ = some u :=
  (set5_cell (p := ⟨b, i, none⟩) hne).trans h
def CopyRel (w : World) (W : Wd) (r s : Value) (k : Nat) (wr : World) : Prop :=
  ∃ G, OwnS wr (w.heap.size + 1 + 1) (w.heap.size + 1 + 1) W.ss.length G W.ss k ∧ RowTo wr w.heap.size 25 2 [r, s] ∧ RowTo wr (w.heap.size + 1) 25 2 [] ∧ Below w.heap.size w wr

set_option maxHeartbeats 4000000 in
theorem copy_any (r s : Value) (W : Wd) (w : World) (hW : Wld w w.heap.size r s W) :
    Calls Tryd.prog 23 #[.agg #[r, s]] w (CopyPost w W) := by
  obtain ⟨hr, hs⟩ := hW
  obtain ⟨A, c, rfl, hc⟩ := hs.form
  obtain ⟨A', c', rfl, hc'⟩ := hr.form
  have hby := hs.bytes
  have hmk := make_sess W.ss.length hby
  have HS := Lib.hid hs
  have HR := Lib.hid hr
  clear hs hr
  go_enter Tryd.func23, Tryd.ntmps23
  go_wp2
  clear hmk
  go_loopw [13] (fun i wr => ∃ k : Nat, k ≤ W.ss.length ∧ i = .int .i64 k ∧ CopyRel w W (.slice A' W.rows.length c') (.slice A W.ss.length c) k wr) (fun i _ => W.ss.length - (intOf i).toNat)
  case atStart =>
    refine ⟨0, by omega, rfl, fun _ _ => 0, ⟨?_, fun i _ h => absurd h (by omega), fun i j _ h => absurd h (by omega), fun i j _ h => absurd h (by omega), fun i j h => absurd h (by omega), fun i j h => absurd h (by omega), fun i j i' j' h => absurd h (by omega)⟩, ?_, ?_, ?_⟩
    · have := RowTo.new ((w.alloc (.cells #[.slice A' W.rows.length c', .slice A W.ss.length c] 25)).alloc (.cells #[.slice none 0 0, .slice none 0 0] 25)) (madeCells #[.int .i64 0, .slice none 0 0, .slice none 0 0, .slice none 0 0, .slice none 0 0] (W.ss.length * 5)) 46
      rw [madeCells_size] at this
      simpa using this
    · exact ((RowTo.whole w #[.slice A' W.rows.length c', .slice A W.ss.length c] 25).alloc _).alloc _
    · have := (RowTo.new (w.alloc (.cells #[.slice A' W.rows.length c', .slice A W.ss.length c] 25)) #[.slice none 0 0, .slice none 0 0] 25).alloc (.cells (madeCells #[.int .i64 0, .slice none 0 0, .slice none 0 0, .slice none 0 0, .slice none 0 0] (W.ss.length * 5)) 46)
      simpa using this
    · repeat' (first | exact Below.refl _ _ | assumption | with_reducible refine below_drewN ?_ _ | with_reducible refine Below.drew ?_ | with_reducible refine Below.setCell ?_ ?_ _ | with_reducible refine Below.alloc ?_ ?_ _ | (simp; done) | (simp; omega))
  case round =>
    obtain ⟨k, hk, rfl, G, hown, hbox, hres, bel⟩ := hrel
    by_cases hlt : k < W.ss.length
    · obtain ⟨b, off, v1, v2, v3, v4, rfl, hb, hses⟩ := HS.out.pt hlt
      generalize hsk : W.ss[k] = s at *
      have HK := Lib.hid hsk
      clear hsk
      obtain ⟨d0, d1, d2, d3, d4, l1, l2, l3, l4⟩ := hses.keep (w' := wr) hb (Nat.le_refl _) fun p hp => bel.cell hp
      obtain ⟨A1, c1, rfl, _⟩ := l1.form
      obtain ⟨A2, c2, rfl, _⟩ := l2.form
      obtain ⟨A3, c3, rfl, _⟩ := l3.form
      obtain ⟨A4, c4, rfl, _⟩ := l4.form
      have L1 := Lib.hid hses.l1
      have L2 := Lib.hid hses.l2
      have L3 := Lib.hid hses.l3
      have L4 := Lib.hid hses.l4
      have hwlt := hown.blk.lt
      have HO := Lib.hid hown
      have HX := Lib.hid hbox
      have HY := Lib.hid hres
      have HB := Lib.hid bel
      clear hown hbox hres bel hses l1 l2 l3 l4
      go_wp2
      clear d0 d1 d2 d3 d4
      have e0 := cell_neu wr #[.int .i64 s.st, (.slice A1 s.set.length c1), (.slice A2 s.prep.length c2), (.slice A3 s.sav.length c3), (.slice A4 s.wr.length c4)] 46 0 (by simp)
      have e1 := cell_neu wr #[.int .i64 s.st, (.slice A1 s.set.length c1), (.slice A2 s.prep.length c2), (.slice A3 s.sav.length c3), (.slice A4 s.wr.length c4)] 46 1 (by simp)
      have e2 := cell_neu wr #[.int .i64 s.st, (.slice A1 s.set.length c1), (.slice A2 s.prep.length c2), (.slice A3 s.sav.length c3), (.slice A4 s.wr.length c4)] 46 2 (by simp)
      have e3 := cell_neu wr #[.int .i64 s.st, (.slice A1 s.set.length c1), (.slice A2 s.prep.length c2), (.slice A3 s.sav.length c3), (.slice A4 s.wr.length c4)] 46 3 (by simp)
      have e4 := cell_neu wr #[.int .i64 s.st, (.slice A1 s.set.length c1), (.slice A2 s.prep.length c2), (.slice A3 s.sav.length c3), (.slice A4 s.wr.length c4)] 46 4 (by simp)
      simp only [List.getElem_toArray, List.getElem_cons_zero, List.getElem_cons_succ] at e0 e1 e2 e3 e4
      have R0 := Lib.hid (HO.out.blk.alloc (.cells #[.int .i64 s.st, (.slice A1 s.set.length c1), (.slice A2 s.prep.length c2), (.slice A3 s.sav.length c3), (.slice A4 s.wr.length c4)] 46))
      have A0 := Lib.hid ((Below.refl wr.heap.size wr).alloc (Nat.le_refl _) (.cells #[.int .i64 s.st, (.slice A1 s.set.length c1), (.slice A2 s.prep.length c2), (.slice A3 s.sav.length c3), (.slice A4 s.wr.length c4)] 46))
      have B0 := Lib.hid (HB.out.alloc HB.out.size (.cells #[.int .i64 s.st, (.slice A1 s.set.length c1), (.slice A2 s.prep.length c2), (.slice A3 s.sav.length c3), (.slice A4 s.wr.length c4)] 46))
      have hz0 : wr.heap.size < (wr.alloc (.cells #[.int .i64 s.st, (.slice A1 s.set.length c1), (.slice A2 s.prep.length c2), (.slice A3 s.sav.length c3), (.slice A4 s.wr.length c4)] 46)).heap.size := by simp
      generalize wr.alloc (.cells #[.int .i64 s.st, (.slice A1 s.set.length c1), (.slice A2 s.prep.length c2), (.slice A3 s.sav.length c3), (.slice A4 s.wr.length c4)] 46) = W0 at *
      have kb := Below.refl W0.heap.size W0
      have kbw := B0.out
      have hz1 : w.heap.size + 1 + 1 < W0.heap.size := by omega
      have hne : wr.heap.size ≠ w.heap.size + 1 + 1 := by omega
      have dS0 := Lib.hid (show W0.drew.cell? ⟨wr.heap.size, 0, none⟩ = some (.int .i64 s.st) ∧ W0.drew.cell? ⟨wr.heap.size, 1, none⟩ = some (.slice A1 s.set.length c1) ∧ W0.drew.cell? ⟨wr.heap.size, 2, none⟩ = some (.slice A2 s.prep.length c2) ∧ W0.drew.cell? ⟨wr.heap.size, 3, none⟩ = some (.slice A3 s.sav.length c3) ∧ W0.drew.cell? ⟨wr.heap.size, 4, none⟩ = some (.slice A4 s.wr.length c4) from ⟨e0, e1, e2, e3, e4⟩)
      go_region_held3 (fun wx => wx.cell? ⟨wr.heap.size, 0, none⟩ = some (.int .i64 s.st) ∧ wx.cell? ⟨wr.heap.size, 1, none⟩ = some (.slice A1 s.set.length c1) ∧ wx.cell? ⟨wr.heap.size, 2, none⟩ = some (.slice A2 s.prep.length c2) ∧ wx.cell? ⟨wr.heap.size, 3, none⟩ = some (.slice A3 s.sav.length c3) ∧ wx.cell? ⟨wr.heap.size, 4, none⟩ = some (.slice A4 s.wr.length c4))
        (first
          | with_reducible exact ⟨e0, e1, e2, e3, e4⟩
          | with_reducible exact dS0.out
          | with_reducible exact ⟨cell_set5' ((kb.cell (p := ⟨wr.heap.size, 0, none⟩) hz0).trans e0) hne, cell_set5' ((kb.cell (p := ⟨wr.heap.size, 1, none⟩) hz0).trans e1) hne, cell_set5' ((kb.cell (p := ⟨wr.heap.size, 2, none⟩) hz0).trans e2) hne, cell_set5' ((kb.cell (p := ⟨wr.heap.size, 3, none⟩) hz0).trans e3) hne, cell_set5' ((kb.cell (p := ⟨wr.heap.size, 4, none⟩) hz0).trans e4) hne⟩
          | with_reducible exact ⟨(kb.cell (p := ⟨wr.heap.size, 0, none⟩) hz0).trans e0, (kb.cell (p := ⟨wr.heap.size, 1, none⟩) hz0).trans e1, (kb.cell (p := ⟨wr.heap.size, 2, none⟩) hz0).trans e2, (kb.cell (p := ⟨wr.heap.size, 3, none⟩) hz0).trans e3, (kb.cell (p := ⟨wr.heap.size, 4, none⟩) hz0).trans e4⟩)
        (first
          | (
            go_at_call_of 37 (Value.slice A1 s.set.length c1)
            (with_reducible refine (copyPairs_any (.slice A1 s.set.length c1) s.set _ ?_).mono ?_)
            case refine_1 => first | exact L1.out.step kbw | exact L1.out.step kbw.drew | exact L1.out.step (below_drewN kbw _)
            rintro e w3 ⟨g0, rfl, q0, r0, hy⟩
            have kb : Below W0.heap.size W0 w3 := by first | exact bel_add kb hy kb.size | exact bel_addN kb hy kb.size
            have kbw : Below w.heap.size w w3 := bel_add B0.out kb B0.out.size
            have q0 : W0.heap.size ≤ g0 := q0)
          | (
            go_at_call_of 37 (Value.slice A2 s.prep.length c2)
            (with_reducible refine (copyPairs_any (.slice A2 s.prep.length c2) s.prep _ ?_).mono ?_)
            case refine_1 => first | exact L2.out.step kbw | exact L2.out.step kbw.drew | exact L2.out.step (below_drewN kbw _)
            rintro e w3 ⟨g1, rfl, q1, r1, hy⟩
            have kb : Below W0.heap.size W0 w3 := by first | exact bel_add kb hy kb.size | exact bel_addN kb hy kb.size
            have kbw : Below w.heap.size w w3 := bel_add B0.out kb B0.out.size
            have q1 : g0 < g1 := Nat.lt_of_lt_of_le r0.lt q1
            have r0 := r0.below hy r0.lt)
          | (
            go_at_call_of 37 (Value.slice A3 s.sav.length c3)
            (with_reducible refine (copyPairs_any (.slice A3 s.sav.length c3) s.sav _ ?_).mono ?_)
            case refine_1 => first | exact L3.out.step kbw | exact L3.out.step kbw.drew | exact L3.out.step (below_drewN kbw _)
            rintro e w3 ⟨g2, rfl, q2, r2, hy⟩
            have kb : Below W0.heap.size W0 w3 := by first | exact bel_add kb hy kb.size | exact bel_addN kb hy kb.size
            have kbw : Below w.heap.size w w3 := bel_add B0.out kb B0.out.size
            have q2 : g1 < g2 := Nat.lt_of_lt_of_le r1.lt q2
            have r0 := r0.below hy r0.lt
            have r1 := r1.below hy r1.lt)
          | (
            go_at_call_of 37 (Value.slice A4 s.wr.length c4)
            (with_reducible refine (copyPairs_any (.slice A4 s.wr.length c4) s.wr _ ?_).mono ?_)
            case refine_1 => first | exact L4.out.step kbw | exact L4.out.step kbw.drew | exact L4.out.step (below_drewN kbw _)
            rintro e w3 ⟨g3, rfl, q3, r3, hy⟩
            have kb : Below W0.heap.size W0 w3 := by first | exact bel_add kb hy kb.size | exact bel_addN kb hy kb.size
            have kbw : Below w.heap.size w w3 := bel_add B0.out kb B0.out.size
            have q3 : g2 < g3 := Nat.lt_of_lt_of_le r2.lt q3
            have r0 := r0.below hy r0.lt
            have r1 := r1.below hy r1.lt
            have r2 := r2.below hy r2.lt
            have Rb := Lib.hid (R0.out.below kb hz1)
            obtain ⟨u0, f0⟩ := Rb.out.any (j := k * 5) (by omega)
            obtain ⟨u1, f1⟩ := Rb.out.any (j := k * 5 + 1) (by omega)
            obtain ⟨u2, f2⟩ := Rb.out.any (j := k * 5 + 2) (by omega)
            obtain ⟨u3, f3⟩ := Rb.out.any (j := k * 5 + 3) (by omega)
            obtain ⟨u4, f4⟩ := Rb.out.any (j := k * 5 + 4) (by omega)
            have y0 := Rb.out.frozen (k * 5)
            have y1 := Rb.out.frozen (k * 5 + 1)
            have y2 := Rb.out.frozen (k * 5 + 2)
            have y3 := Rb.out.frozen (k * 5 + 3)
            have y4 := Rb.out.frozen (k * 5 + 4)))
      go_wp2
      go_roundw
      case rel =>
        refine ⟨k + 1, by omega, by go_num, (fun i j => if i = k then pick4 g0 g1 g2 g3 j else G i j), ?_, ?_, ?_, ?_⟩
        · have hk' := HK.out
          subst hk'
          exact HO.out.step hlt rfl (by omega) (A0.out.trans (kb.mono (by omega))) r0 r1 r2 r3 (by omega) q1 q2 q3
        · have := (HX.out.below (A0.out.trans (kb.mono (by omega))) HX.out.lt)
          exact set5_other this (by omega)
        · have := (HY.out.below (A0.out.trans (kb.mono (by omega))) HY.out.lt)
          exact set5_other this (by omega)
        · exact set5_below kbw (by omega)
      case measure => simp [intOf]; omega
    · obtain rfl : k = W.ss.length := by omega
      have x0 := hbox.cell (j := 0) (by simp)
      have x1 := hbox.cell (j := 1) (by simp)
      simp only [List.getElem_cons_zero, List.getElem_cons_succ] at x0 x1
      have HO := Lib.hid hown
      have HY := Lib.hid hres
      have HB := Lib.hid bel
      have hwlt := hown.blk.lt
      clear hown hbox hres bel
      go_wp2_with fail
      refine (copyPairs_any _ W.rows _ (HR.out.step HB.out)).mono ?_
      rintro e w3 ⟨g, rfl, q, rr, hy⟩
      have Y3 := HY.out.below hy HY.out.lt
      obtain ⟨u0, f0⟩ := Y3.any (j := 0) (by omega)
      obtain ⟨u1, f1⟩ := Y3.any (j := 1) (by omega)
      have y0 := Y3.frozen 0
      have y1 := Y3.frozen 1
      have HR3 := Lib.hid rr
      have HY3 := Lib.hid Y3
      clear rr Y3
      go_wp2
      refine bodyPost_ret (v := .agg #[.slice (some ⟨g, 0, none⟩) W.rows.length W.rows.length, .slice (some ⟨w.heap.size + 1 + 1, 0, none⟩) W.ss.length W.ss.length]) (by simp [results, Tryd.results23, go_sem, f0, f1]) rfl ?_
      have O3 := HO.out.kept (Nat.le_refl _) hy
      have hne : w.heap.size + 1 ≠ g := by omega
      refine ⟨g, w.heap.size + 1 + 1, G, rfl, ⟨(HR3.out.other hne _).other hne _, ?_, by omega, by omega, by omega, fun i j hi hj => ?_⟩, ?_⟩
      · have hS := O3.blk.lt
        have hw : ∀ p : Addr, p.block ≠ w.heap.size + 1 → ((w3.setCell ⟨w.heap.size + 1, 0, none⟩ (.slice (some ⟨g, 0, none⟩) W.rows.length W.rows.length)).setCell ⟨w.heap.size + 1, 1, none⟩ (.slice (some ⟨w.heap.size + 1 + 1, 0, none⟩) W.ss.length W.ss.length)).cell? p = w3.cell? p := fun p hp => by
          rw [World.cell?_setCell_other _ _ _ _ (fun e => hp (by rw [← e])), World.cell?_setCell_other _ _ _ _ (fun e => hp (by rw [← e]))]
        have hG : ∀ i j, i < W.ss.length → j < 4 → w.heap.size + 1 ≠ G i j := fun i j hi hj e => by have := HO.out.lo i j hi hj; omega
        refine ⟨(O3.blk.other (by simp) _).other (by simp) _, fun i hi hik => (hw _ (by simp)).trans (O3.st i hi hik), fun i j hi hik hj => (hw _ (by simp)).trans (O3.cs i j hi hik hj), fun i j hi hik hj => ((O3.ls i j hi hik hj).other (hG i j hik hj) _).other (hG i j hik hj) _, fun i j hi hj => by have := O3.lo i j hi hj; omega, O3.ne, O3.inj⟩
      · have := (HO.out.ls i j hi hi hj).lt
        omega
      · exact ((bel_add HB.out hy HB.out.size).setCell (by simp) _).setCell (by simp) _
end Go.Proofs.YtpbaobmegomfpabDoor

/-
  A copy of a world reads as it.
-/
namespace Go.Proofs.YtpbaobmegomfpabDoor
open Go.RowKit
set_option linter.unusedVariables false
set_option maxRecDepth 100000

theorem OwnW.wld {w : World} {base gR S : Nat} {G : Nat → Nat → Nat} {W : Wd} (h : OwnW w base gR S G W) {w0 : World} {r s : Value} {B0 : Nat} (h0 : Wld w0 B0 r s W) : Wld w w.heap.size (sl gR W.rows.length) (sl S W.ss.length) W := by
  refine ⟨h.rows.lst (Nat.le_refl _) h.rows.lt h0.rows.bytes h0.rows.sizes, ⟨⟨_, _, rfl, Nat.le_refl _⟩, h0.sess.bytes, fun hn => ⟨S, 0, W.ss.length, rfl, h.sess.blk.lt, fun i hi => ?_⟩⟩⟩
  obtain ⟨b, off, c, e, hb, hc⟩ := h0.sess.cells hn
  obtain ⟨v1, v2, v3, v4, hs⟩ := hc i hi
  have hc0 := h.sess.st i hi hi
  have hc1 := h.sess.cs i 0 hi hi (by omega)
  have hc2 := h.sess.cs i 1 hi hi (by omega)
  have hc3 := h.sess.cs i 2 hi hi (by omega)
  have hc4 := h.sess.cs i 3 hi hi (by omega)
  have l1 := h.sess.ls i 0 hi hi (by omega)
  have l2 := h.sess.ls i 1 hi hi (by omega)
  have l3 := h.sess.ls i 2 hi hi (by omega)
  have l4 := h.sess.ls i 3 hi hi (by omega)
  rw [Nat.zero_add]
  exact ⟨_, _, _, _, hc0, hc1, hc2, hc3, hc4, l1.lst (Nat.le_refl _) l1.lt hs.l1.bytes hs.l1.sizes, l2.lst (Nat.le_refl _) l2.lt hs.l2.bytes hs.l2.sizes, l3.lst (Nat.le_refl _) l3.lt hs.l3.bytes hs.l3.sizes, l4.lst (Nat.le_refl _) l4.lt hs.l4.bytes hs.l4.sizes⟩

end Go.Proofs.YtpbaobmegomfpabDoor

/-
  Plain mathematics: a statement leaves a world that may be (P2.1, P2.2).
-/
namespace Go.Proofs.YtpbaobmegomfpabDoor
open Go.RowKit
set_option linter.unusedVariables false

theorem fnd_append (l m : PL) (k : ByteArray) : fndL (l ++ m) k = (fndL l k || fndL m k) := by
  induction l with
  | nil => simp [fndL, atL]
  | cons p l ih =>
    unfold fndL at ih ⊢
    rw [List.cons_append]
    cases e : eqB p.1 k
    · rw [atL_no e, atL_no e]; exact ih
    · rw [atL_yes e, atL_yes e]; simp
theorem fnd_flat (ss : List Sess) (k : ByteArray) : fndL (ss.flatMap (·.wr)) k = ss.any (fun s => fndL s.wr k) := by
  induction ss with
  | nil => simp [fndL, atL]
  | cons s ss ih => rw [List.flatMap_cons, fnd_append, ih]; simp
theorem fnd_all {W : Wd} (h : risingB W.rows = true) (k : ByteArray) : fndL (allL W) k = (fndL W.rows k || W.ss.any (fun s => fndL s.wr k)) := by
  unfold allL; rw [allF_fnd h, fnd_flat]
theorem any_get {ss : List Sess} {f : Sess → Bool} : ss.any f = true ↔ ∃ k, ∃ hk : k < ss.length, f ss[k] = true := by
  rw [List.any_eq_true]
  constructor
  · rintro ⟨s, hs, h⟩
    obtain ⟨k, hk, rfl⟩ := List.getElem_of_mem hs
    exact ⟨k, hk, h⟩
  · rintro ⟨k, hk, h⟩; exact ⟨_, List.getElem_mem hk, h⟩
theorem plusF_up {R : PL} (h : risingB R = true) : ∀ l : PL, risingB (plusF R l) = true := by
  intro l
  unfold plusF
  induction l generalizing R with
  | nil => exact h
  | cons p l ih => rw [List.foldl_cons]; exact ih (by rw [plus_ins h]; exact ins_rising h)
theorem plusF_fnd {R : PL} {k : ByteArray} (h : risingB R = true) : ∀ l : PL, fndL (plusF R l) k = (fndL R k || fndL l k) := by
  intro l
  unfold plusF
  induction l generalizing R with
  | nil => simp [fndL, atL]
  | cons p l ih =>
    rw [List.foldl_cons, ih (by rw [plus_ins h]; exact ins_rising h), plus_ins h, fnd_ins h]
    have : fndL (p :: l) k = (eqB p.1 k || fndL l k) := by
      unfold fndL
      cases e : eqB p.1 k
      · rw [atL_no e]; simp
      · rw [atL_yes e]; simp
    rw [this]
    cases eqB p.1 k <;> cases fndL R k <;> simp
theorem plusF_mem {q : ByteArray × ByteArray} : ∀ {l R : PL}, q ∈ plusF R l → q ∈ R ∨ q ∈ l
  | [], R, h => .inl h
  | p :: l, R, h => by
    unfold plusF at h
    rw [List.foldl_cons] at h
    rcases plusF_mem (l := l) (R := plusL R p.1 p.2) h with h | h
    · rcases plusL_mem h with h | h
      · exact .inr (by rw [h]; simp)
      · exact .inl h
    · exact .inr (by simp [h])
theorem pairsB_mk {l : PL} {most : Nat} {kind : Int} (h1 : risingB l = true) (h2 : l.length ≤ most) (h3 : ∀ p ∈ l, checkE kind p.1 p.2 = 0) : pairsB l most kind = true := by
  unfold pairsB
  rw [h1, decide_eq_true h2, Bool.and_true, Bool.and_true, List.all_eq_true]
  exact fun p hp => decide_eq_true (h3 p hp)
theorem pairsB_nil (most : Nat) (kind : Int) : pairsB [] most kind = true := pairsB_mk rfl (Nat.zero_le _) (fun _ h => by cases h)
/-- one pair more where there is room -/
theorem pairsB_plus {l : PL} {most : Nat} {kind : Int} {key val : ByteArray} (h : pairsB l most kind = true) (hc : checkE kind key val = 0) (hr : fndL l key = true ∨ l.length < most) : pairsB (plusL l key val) most kind = true := by
  obtain ⟨h1, h2, h3⟩ := pairsB_rising h
  rw [plus_ins h1]
  refine pairsB_mk (ins_rising h1) ?_ (fun p hp => ?_)
  · rw [ins_length h1]
    rcases hr with hr | hr
    · unfold fndL at hr; rw [if_pos hr]; exact h2
    · split <;> omega
  · rcases ins_mem hp with rfl | hp
    · exact hc
    · exact h3 p hp
theorem fnd_plus {l : PL} {k v k' : ByteArray} (h : risingB l = true) : fndL (plusL l k v) k' = (eqB k k' || fndL l k') := by rw [plus_ins h, fnd_ins h]

section
variable {W : Wd} {i : Nat} {s' : Sess}
theorem wput_len (W : Wd) (i : Nat) (s' : Sess) : (W.put i s').ss.length = W.ss.length := by unfold Wd.put; simp
theorem wput_get (hi : i < W.ss.length) {k : Nat} (hk : k < (W.put i s').ss.length) : (W.put i s').ss[k] = if i = k then s' else W.ss[k]'(by rw [wput_len] at hk; exact hk) := by
  simp only [Wd.put]
  rw [List.getElem_set]
theorem held_put (hi : i < W.ss.length) (hs : ∀ k, fndL s'.wr k = true → fndL W.ss[i].wr k = true) {me : Int} {key : ByteArray} (h : heldB W.ss me key = false) : heldB (W.put i s').ss me key = false := by
  refine heldB_no fun k hk hf => Classical.byContradiction fun hne => ?_
  rw [wput_get hi hk] at hf
  have hk' : k < W.ss.length := by rw [wput_len] at hk; exact hk
  have : (atL W.ss[k].wr key).isSome = true := by
    by_cases e : i = k
    · subst e; rw [if_pos rfl] at hf; exact hs key hf
    · rw [if_neg e] at hf; exact hf
  rw [heldB_yes hk' this hne] at h; cases h
theorem any_put (hi : i < W.ss.length) {key : ByteArray} (h : (W.put i s').ss.any (fun s => fndL s.wr key) = true) : fndL s'.wr key = true ∨ W.ss.any (fun s => fndL s.wr key) = true := by
  obtain ⟨k, hk, hf⟩ := any_get.1 h
  rw [wput_get hi hk] at hf
  have hk' : k < W.ss.length := by rw [wput_len] at hk; exact hk
  by_cases e : i = k
  · rw [if_pos e] at hf; exact .inl hf
  · rw [if_neg e] at hf; exact .inr (any_get.2 ⟨k, hk', hf⟩)
theorem all_len {W' : Wd} (h : WorldOk W) (hr : risingB W'.rows = true) (hf : ∀ k, fndL (allL W') k = true → fndL (allL W) k = true) : (allL W').length ≤ 100 :=
  Nat.le_trans (sub_len (all_rising h) (allF_rising hr _) (fun p hp => hf p.1 (fnd_of_mem hp))) h.all
theorem all_more {W' : Wd} (h : WorldOk W) (hr : risingB W'.rows = true) {key : ByteArray} (hn : ¬ (fndL (allL W) key = false ∧ 100 ≤ (allL W).length)) (hf : ∀ k, fndL (allL W') k = true → eqB key k = true ∨ fndL (allL W) k = true) : (allL W').length ≤ 100 := by
  have h1 := sub_len (R := insL (allL W) key ⟨#[]⟩) (ins_rising (all_rising h)) (allF_rising hr (W'.ss.flatMap (·.wr))) (fun p hp => by
    rw [fnd_ins (all_rising h)]
    rcases hf p.1 (fnd_of_mem hp) with h | h
    · rw [h]; rfl
    · rw [h]; simp)
  rw [ins_length (all_rising h)] at h1
  have h2 := h.all
  have h3 : (allL W').length = (allF W'.rows (W'.ss.flatMap (·.wr))).length := rfl
  cases e : fndL (allL W) key
  · unfold fndL at e
    rw [e] at h1
    have h4 : ¬ 100 ≤ (allL W).length := fun hh => hn ⟨e, hh⟩
    simp at h1
    omega
  · unfold fndL at e
    rw [e] at h1
    simp at h1
    omega
/-- session i has turned, and its Writes are no more than they were -/
theorem wput_ok (h : WorldOk W) (hi : i < W.ss.length) (hs : SessOk s') (hw : ∀ p ∈ s'.wr, p ∈ W.ss[i].wr) : WorldOk (W.put i s') := by
  have hf : ∀ k, fndL s'.wr k = true → fndL W.ss[i].wr k = true := fun k hk => by
    obtain ⟨v, hv⟩ := Option.isSome_iff_exists.1 hk
    exact atL_of_mem (hw _ (atL_mem hv))
  refine ⟨h.rows, by rw [wput_len]; exact h.many, fun k hk => ?_, fun k hk p hp => ?_, ?_⟩
  · rw [wput_get hi hk]
    split
    · exact hs
    · exact h.sess k _
  · have hk' : k < W.ss.length := by rw [wput_len] at hk; exact hk
    rw [wput_get hi hk] at hp
    refine held_put hi hf (h.apart k hk' p ?_)
    by_cases e : i = k
    · subst e; rw [if_pos rfl] at hp; exact hw p hp
    · rw [if_neg e] at hp; exact hp
  · have hr := (pairsB_rising h.rows).1
    refine all_len h hr fun k hk => ?_
    rw [fnd_all (W := W.put i s') hr] at hk
    rw [fnd_all hr]
    rw [Bool.or_eq_true] at hk ⊢
    rcases hk with hk | hk
    · exact .inl hk
    · right
      rcases any_put hi hk with h1 | h1
      · exact any_get.2 ⟨i, hi, hf k h1⟩
      · exact h1
/-- the session that a statement stores a row in -/
theorem put_wr_ok (h : WorldOk W) (hi : i < W.ss.length) {key val : ByteArray} (hst : W.ss[i].st = 1) (hc : checkE 10 key val = 0) (hh : heldB W.ss i key = false) (hn : ¬ (fndL (allL W) key = false ∧ 100 ≤ (allL W).length)) :
    WorldOk (W.put i { W.ss[i] with wr := plusL W.ss[i].wr key val }) := by
  have hs := h.sess i hi
  have hrw := (pairsB_rising hs.wr).1
  have hr := (pairsB_rising h.rows).1
  refine ⟨h.rows, by rw [wput_len]; exact h.many, fun k hk => ?_, fun k hk p hp => ?_, ?_⟩
  · rw [wput_get hi hk]
    split
    · exact ⟨hs.lo, hs.hi, hs.set, hs.prep, hs.sav, pairsB_plus hs.wr hc (room_wr h hi hn), hs.idle, fun hne => absurd hst hne⟩
    · exact h.sess k _
  · have hk' : k < W.ss.length := by rw [wput_len] at hk; exact hk
    rw [wput_get hi hk] at hp
    refine heldB_no fun m hm hf => Classical.byContradiction fun hne => ?_
    have hm' : m < W.ss.length := by rw [wput_len] at hm; exact hm
    rw [wput_get hi hm] at hf
    by_cases e : i = k
    · subst e
      rw [if_pos rfl] at hp
      rw [if_neg (by omega)] at hf
      rw [plus_ins hrw] at hp
      rcases ins_mem hp with rfl | hp
      · rw [heldB_yes hm' hf hne] at hh; cases hh
      · have := h.apart i hi p hp
        rw [heldB_yes hm' hf hne] at this; cases this
    · rw [if_neg e] at hp
      have hap := h.apart k hk' p hp
      by_cases e2 : i = m
      · subst e2
        rw [if_pos rfl] at hf
        have hf : fndL (plusL W.ss[i].wr key val) p.1 = true := hf
        rw [fnd_plus hrw, Bool.or_eq_true] at hf
        rcases hf with hf | hf
        · rw [eqB_iff.1 hf, heldB_yes hk' (atL_of_mem hp) (by omega)] at hh; cases hh
        · rw [heldB_yes hi hf hne] at hap; cases hap
      · rw [if_neg e2] at hf
        rw [heldB_yes hm' hf hne] at hap; cases hap
  · refine all_more h hr hn fun k hk => ?_
    rw [fnd_all (W := W.put i _) hr, Bool.or_eq_true] at hk
    rw [fnd_all hr, Bool.or_eq_true]
    rcases hk with hk | hk
    · exact .inr (.inl hk)
    · rcases any_put hi hk with h1 | h1
      · have h1 : fndL (plusL W.ss[i].wr key val) k = true := h1
        rw [fnd_plus hrw, Bool.or_eq_true] at h1
        rcases h1 with h1 | h1
        · exact .inl h1
        · exact .inr (.inr (any_get.2 ⟨i, hi, h1⟩))
      · exact .inr (.inr h1)
theorem put_row_ok (h : WorldOk W) {key val : ByteArray} (hc : checkE 10 key val = 0) (hn : ¬ (fndL (allL W) key = false ∧ 100 ≤ (allL W).length)) : WorldOk ⟨plusL W.rows key val, W.ss⟩ := by
  have hr := (pairsB_rising h.rows).1
  have hp := pairsB_plus h.rows hc (room_rows h hn)
  have hr' := (pairsB_rising hp).1
  refine ⟨hp, h.many, h.sess, h.apart, all_more h hr' hn fun k hk => ?_⟩
  rw [fnd_all (W := ⟨plusL W.rows key val, W.ss⟩) hr', Bool.or_eq_true] at hk
  rw [fnd_all hr, Bool.or_eq_true]
  rcases hk with hk | hk
  · have hk : fndL (plusL W.rows key val) k = true := hk
    rw [fnd_plus hr, Bool.or_eq_true] at hk
    rcases hk with hk | hk
    · exact .inl hk
    · exact .inr (.inl hk)
  · exact .inr (.inr hk)
theorem rows_put_len (R : PL) (W : Wd) (i : Nat) (s' : Sess) : (⟨R, W.ss.set i s'⟩ : Wd).ss.length = W.ss.length := by simp
theorem commit_ok (h : WorldOk W) (hi : i < W.ss.length) : WorldOk ⟨plusF W.rows W.ss[i].wr, W.ss.set i { W.ss[i] with st := 0, sav := [], wr := [] }⟩ := by
  have hs := h.sess i hi
  have hr := (pairsB_rising h.rows).1
  have hr' := plusF_up hr W.ss[i].wr
  have hq := wput_ok (s' := { W.ss[i] with st := 0, sav := [], wr := [] }) h hi ⟨Int.le_refl _, (by show (0 : Int) ≤ 2; decide), hs.set, hs.prep, pairsB_nil _ _, pairsB_nil _ _, fun _ => rfl, fun _ => rfl⟩ (fun p hp => by cases hp)
  have hall : ∀ k, fndL (allL ⟨plusF W.rows W.ss[i].wr, W.ss.set i { W.ss[i] with st := 0, sav := [], wr := [] }⟩) k = true → fndL (allL W) k = true := fun k hk => by
    rw [fnd_all (W := ⟨plusF W.rows W.ss[i].wr, _⟩) hr', Bool.or_eq_true] at hk
    rw [fnd_all hr, Bool.or_eq_true]
    rcases hk with hk | hk
    · have hk : fndL (plusF W.rows W.ss[i].wr) k = true := hk
      rw [plusF_fnd hr, Bool.or_eq_true] at hk
      rcases hk with hk | hk
      · exact .inl hk
      · exact .inr (any_get.2 ⟨i, hi, hk⟩)
    · right
      rcases any_put (W := W) (s' := { W.ss[i] with st := 0, sav := [], wr := [] }) hi hk with h1 | h1
      · cases h1
      · exact h1
  refine ⟨pairsB_mk hr' ?_ (fun p hp => ?_), hq.many, hq.sess, hq.apart, all_len h hr' hall⟩
  · have := sub_len (all_rising h) hr' (fun p hp => by
      have hf := fnd_of_mem hp
      rw [plusF_fnd hr, Bool.or_eq_true] at hf
      rw [fnd_all hr, Bool.or_eq_true]
      rcases hf with hf | hf
      · exact .inl hf
      · exact .inr (any_get.2 ⟨i, hi, hf⟩))
    have := h.all
    show (plusF W.rows W.ss[i].wr).length ≤ 100
    omega
  · rcases plusF_mem hp with hp | hp
    · exact (pairsB_rising h.rows).2.2 p hp
    · exact (pairsB_rising hs.wr).2.2 p hp

/-- a world that may be, with as many sessions -/
def Fine (W : Wd) (r : Wd × Ans) : Prop := WorldOk r.1 ∧ r.1.ss.length = W.ss.length
theorem fine_ite {c : Prop} [Decidable c] {a b : Wd × Ans} (ha : c → Fine W a) (hb : ¬ c → Fine W b) : Fine W (if c then a else b) := by
  by_cases h : c
  · rw [if_pos h]; exact ha h
  · rw [if_neg h]; exact hb h
theorem did1_ok (h : WorldOk W) (hi : i < W.ss.length) {k : Int} {key val : ByteArray} (hc : checkE k key val = 0) : Fine W (did1 W i k key val) := by
  have hs := h.sess i hi
  have e : W.at i = W.ss[i] := by unfold Wd.at; rw [List.getD_eq_getElem?_getD, List.getElem?_eq_getElem hi]; rfl
  have same : ∀ a, Fine W (W, a) := fun a => ⟨h, rfl⟩
  unfold did1
  simp only
  rw [e]
  refine fine_ite (fun _ => same _) (fun hfail => ?_)
  refine fine_ite (fun _ => fine_ite (fun _ => ?_) (fun _ => same _)) (fun _ => ?_)
  · exact ⟨wput_ok h hi ⟨(by show (0 : Int) ≤ 1; decide), (by show (1 : Int) ≤ 2; decide), hs.set, hs.prep, hs.set, hs.wr, (fun hh => absurd hh (by show ¬ (1 : Int) = 0; decide)), fun hh => absurd rfl hh⟩ (fun p hp => hp), wput_len _ _ _⟩
  refine fine_ite (fun _ => fine_ite (fun _ => same _) (fun _ => fine_ite (fun _ => ?_) (fun _ => ?_))) (fun _ => ?_)
  · exact ⟨commit_ok h hi, by simp⟩
  · exact ⟨wput_ok h hi ⟨Int.le_refl _, (by show (0 : Int) ≤ 2; decide), hs.sav, hs.prep, pairsB_nil _ _, pairsB_nil _ _, fun _ => rfl, fun _ => rfl⟩ (fun p hp => by cases hp), wput_len _ _ _⟩
  refine fine_ite (fun _ => fine_ite (fun _ => ?_) (fun _ => same _)) (fun _ => ?_)
  · exact ⟨wput_ok h hi ⟨hs.lo, hs.hi, pairsB_nil _ _, pairsB_nil _ _, hs.sav, hs.wr, hs.idle, hs.tx⟩ (fun p hp => hp), wput_len _ _ _⟩
  refine fine_ite (fun _ => same _) (fun _ => fine_ite (fun _ => same _) (fun _ => ?_))
  refine fine_ite (fun h9 => fine_ite (fun _ => same _) (fun hn => ?_)) (fun _ => ?_)
  · subst h9
    refine ⟨wput_ok h hi ⟨hs.lo, hs.hi, pairsB_plus hs.set hc ?_, hs.prep, hs.sav, hs.wr, hs.idle, hs.tx⟩ (fun p hp => hp), wput_len _ _ _⟩
    cases e : fndL W.ss[i].set key
    · exact .inr (Nat.lt_of_not_le fun hh => hn ⟨e, hh⟩)
    · exact .inl rfl
  refine fine_ite (fun h10 => fine_ite (fun _ => same _) (fun hh => fine_ite (fun _ => same _) (fun hn => fine_ite (fun h1 => ?_) (fun _ => ?_)))) (fun _ => ?_)
  · subst h10
    exact ⟨put_wr_ok h hi h1 hc (by simpa using hh) hn, wput_len _ _ _⟩
  · subst h10
    exact ⟨put_row_ok h hc hn, rfl⟩
  refine fine_ite (fun h11 => fine_ite (fun _ => same _) (fun hn => ?_)) (fun _ => same _)
  subst h11
  refine ⟨wput_ok h hi ⟨hs.lo, hs.hi, hs.set, pairsB_plus hs.prep hc ?_, hs.sav, hs.wr, hs.idle, hs.tx⟩ (fun p hp => hp), wput_len _ _ _⟩
  cases e : fndL W.ss[i].prep key
  · exact .inr (Nat.lt_of_not_le fun hh => hn ⟨e, hh⟩)
  · exact .inl rfl
/-- what was prepared is a statement -/
theorem prep_stmt {l : PL} (h : pairsB l 6 11 = true) {key t : ByteArray} (ha : atL l key = some t) : readE t = 0 ∧ checkE (kindN (cutA t)) (cutA (cutB t)) (cutB (cutB t)) = 0 ∧ (kindN (cutA t) = 6 ∨ kindN (cutA t) = 7 ∨ kindN (cutA t) = 10) := by
  have hc := (pairsB_rising h).2.2 _ (atL_mem ha)
  have hv : prepB t = true := by
    unfold checkE at hc
    rw [if_neg (by decide)] at hc
    split at hc
    · rename_i hh
      rw [Bool.and_eq_true] at hh
      have := hh.2
      unfold valueB at this
      rwa [if_pos rfl] at this
    · cases hc
  rw [prepB_read, Bool.and_eq_true, decide_eq_true_eq, decide_eq_true_eq] at hv
  exact ⟨hv.1, (text_read hv.1).1, hv.2⟩
theorem didM_ok (h : WorldOk W) (hi : i < W.ss.length) {k : Int} {key val : ByteArray} (hc : checkE k key val = 0) : Fine W (didM W i k key val) := by
  have hs := h.sess i hi
  have e : W.at i = W.ss[i] := by unfold Wd.at; rw [List.getD_eq_getElem?_getD, List.getElem?_eq_getElem hi]; rfl
  unfold didM
  simp only [e]
  split
  · split
    · exact ⟨h, rfl⟩
    split
    · exact ⟨h, rfl⟩
    · rename_i t ht
      exact did1_ok h hi (prep_stmt hs.prep ht).2.1
  · exact did1_ok h hi hc
theorem doM_ok (h : WorldOk W) (hi : i < W.ss.length) {k : Int} {key val : ByteArray} (hc : checkE k key val = 0) : Fine W (doM W i k key val) := by
  obtain ⟨h1, h2⟩ := didM_ok h hi hc
  unfold doM
  simp only
  split
  · have hi' : i < (didM W i k key val).1.ss.length := by omega
    have e : (didM W i k key val).1.at i = (didM W i k key val).1.ss[i] := by unfold Wd.at; rw [List.getD_eq_getElem?_getD, List.getElem?_eq_getElem hi']; rfl
    have hs := h1.sess i hi'
    rw [e]
    exact ⟨wput_ok h1 hi' ⟨(by show (0 : Int) ≤ 2; decide), (by show (2 : Int) ≤ 2; decide), hs.set, hs.prep, hs.sav, pairsB_nil _ _, (fun hh => absurd hh (by show ¬ (2 : Int) = 0; decide)), fun _ => rfl⟩ (fun p hp => by cases hp), by rw [wput_len]; exact h2⟩
  · exact ⟨h1, h2⟩
end
end Go.Proofs.YtpbaobmegomfpabDoor

/-
  Plain mathematics: an answer of a session is one that can be told.
-/
namespace Go.Proofs.YtpbaobmegomfpabDoor
open Go.RowKit
set_option linter.unusedVariables false

structure AnsOk (a : Ans) : Prop where
  lo : 1 ≤ a.kind
  hi : a.kind ≤ 4
  len : a.text.size ≤ 60
  ne : (decide (a.kind = 2 ∨ a.kind = 4) == a.text.toList.isEmpty) = false
theorem no_ok {t : ByteArray} (h : t.size ≤ 60) (h1 : 1 ≤ t.size) : AnsOk (no' t) := ⟨(by show (1 : Int) ≤ 4; decide), Int.le_refl _, h, by rw [show (no' t).text = t from rfl, full_of h1]; show (decide ((4 : Int) = 2 ∨ (4 : Int) = 4) == false) = false; decide⟩
theorem ok_ok : AnsOk ok' := ⟨Int.le_refl _, (by show (1 : Int) ≤ 4; decide), (by show 0 ≤ 60; decide), by rw [empty_of (s := ok'.text) rfl]; decide⟩
theorem fnd_ok {o : Option ByteArray} (h : ∀ v, o = some v → 1 ≤ v.size ∧ v.size ≤ 60) : AnsOk (fnd' o) := by
  cases o with
  | none => exact ⟨(by show (1 : Int) ≤ 3; decide), (by show (3 : Int) ≤ 4; decide), (by show 0 ≤ 60; decide), by rw [empty_of (s := (fnd' none).text) rfl]; decide⟩
  | some v => exact ⟨(by show (1 : Int) ≤ 2; decide), (by show (2 : Int) ≤ 4; decide), (h v rfl).2, by rw [show (fnd' (some v)).text = v from rfl, full_of (h v rfl).1]; show (decide ((2 : Int) = 2 ∨ (2 : Int) = 4) == false) = false; decide⟩
theorem val_ok {l : PL} {most : Nat} {kind : Int} (hk : 9 ≤ kind) (h : pairsB l most kind = true) {key v : ByteArray} (ha : atL l key = some v) : 1 ≤ v.size ∧ v.size ≤ 60 := by
  have g := good_of ((pairsB_rising h).2.2 _ (atL_mem ha))
  refine ⟨?_, g.v60⟩
  have this : v.toList.isEmpty = decide (kind < 9) := g.vE
  rw [decide_eq_false (by omega)] at this
  rcases Nat.lt_or_ge 0 v.size with h' | h'
  · exact h'
  · rw [empty_of (by omega)] at this; cases this
section
variable {W : Wd} {i : Nat}
theorem ans_ite {c : Prop} [Decidable c] {a b : Wd × Ans} (ha : AnsOk a.2) (hb : AnsOk b.2) : AnsOk (if c then a else b).2 := by
  split
  · exact ha
  · exact hb
theorem did1_ans (h : WorldOk W) (hi : i < W.ss.length) (k : Int) (key val : ByteArray) : AnsOk (did1 W i k key val).2 := by
  have hs := h.sess i hi
  have e : W.at i = W.ss[i] := by unfold Wd.at; rw [List.getD_eq_getElem?_getD, List.getElem?_eq_getElem hi]; rfl
  unfold did1
  simp only
  rw [e]
  repeat' first
    | exact no_ok (by decide) (by decide)
    | exact ok_ok
    | refine ans_ite ?_ ?_
  · exact fnd_ok fun v hv => val_ok (by decide) hs.set hv
  · refine fnd_ok fun v hv => ?_
    cases ha : atL W.ss[i].wr key with
    | none => rw [ha] at hv; exact val_ok (by decide) h.rows hv
    | some u => rw [ha] at hv; injection hv with hv; subst hv; exact val_ok (by decide) hs.wr ha
theorem didM_ans (h : WorldOk W) (hi : i < W.ss.length) (k : Int) (key val : ByteArray) : AnsOk (didM W i k key val).2 := by
  unfold didM
  refine ans_ite (ans_ite (no_ok (by decide) (by decide)) ?_) (did1_ans h hi _ _ _)
  split
  · exact no_ok (by decide) (by decide)
  · exact did1_ans h hi _ _ _
theorem doM_ans (h : WorldOk W) (hi : i < W.ss.length) (k : Int) (key val : ByteArray) : AnsOk (doM W i k key val).2 := by
  unfold doM
  simp only
  exact ans_ite (didM_ans h hi _ _ _) (didM_ans h hi _ _ _)
end
end Go.Proofs.YtpbaobmegomfpabDoor

/-
  back.Do.
-/
namespace Go.Proofs.YtpbaobmegomfpabDoor
open Go.RowKit
set_option linter.unusedVariables false
set_option linter.unusedSimpArgs false
set_option maxRecDepth 100000

/-- the zero values of Do's results, with an error -/
def doBad (e : Int) : Value := .tuple #[.agg #[.slice none 0 0, .slice none 0 0], .agg #[.int .i64 0, .string ⟨#[]⟩, .int .i64 0], .int .i64 e]
/-- what Do returns where there is no error -/
def doGood (r s : Value) (a : Ans) (st : Int) : Value := .tuple #[.agg #[r, s], .agg #[.int .i64 a.kind, .string a.text, .int .i64 st], .int .i64 0]

/-- Do's blocks at its entry -/
def doW0 (w : World) (r s : Value) (k : Int) (key val : ByteArray) : World :=
  (((w.alloc (.cells #[r, s] 25)).alloc (.cells #[.int .i64 k, .string key, .string val] 27)).alloc (.cells #[.slice none 0 0, .slice none 0 0] 25)).alloc (.cells #[.int .i64 0, .string ⟨#[]⟩, .int .i64 0] 30)
structure DoAt (w w1 : World) (r s : Value) (k : Int) (key val : ByteArray) : Prop where
  X : RowTo w1 w.heap.size 25 2 [r, s]
  Y : RowTo w1 (w.heap.size + 1) 27 3 [.int .i64 k, .string key, .string val]
  R : RowTo w1 (w.heap.size + 1 + 1) 25 2 [.slice none 0 0, .slice none 0 0]
  A : RowTo w1 (w.heap.size + 1 + 1 + 1) 30 3 [.int .i64 0, .string ⟨#[]⟩, .int .i64 0]
  bel : Below w.heap.size w w1
  size : w.heap.size + 1 + 1 + 1 + 1 ≤ w1.heap.size
theorem doAt0 (w : World) (r s : Value) (k : Int) (key val : ByteArray) : DoAt w (doW0 w r s k key val) r s k key val := by
  unfold doW0
  refine ⟨(((RowTo.whole w #[r, s] _).alloc _).alloc _).alloc _, ?_, ?_, ?_, ?_, by simp⟩
  · have := ((RowTo.whole (w.alloc (.cells #[r, s] 25)) #[.int .i64 k, .string key, .string val] 27).alloc (.cells #[.slice none 0 0, .slice none 0 0] 25)).alloc (.cells #[.int .i64 0, .string ⟨#[]⟩, .int .i64 0] 30)
    simpa using this
  · have := (RowTo.whole ((w.alloc (.cells #[r, s] 25)).alloc (.cells #[.int .i64 k, .string key, .string val] 27)) #[.slice none 0 0, .slice none 0 0] 25).alloc (.cells #[.int .i64 0, .string ⟨#[]⟩, .int .i64 0] 30)
    simpa using this
  · have := RowTo.whole (((w.alloc (.cells #[r, s] 25)).alloc (.cells #[.int .i64 k, .string key, .string val] 27)).alloc (.cells #[.slice none 0 0, .slice none 0 0] 25)) #[.int .i64 0, .string ⟨#[]⟩, .int .i64 0] 30
    simpa using this
  · repeat' (first | exact Below.refl _ _ | assumption | with_reducible refine below_drewN ?_ _ | with_reducible refine Below.drew ?_ | with_reducible refine Below.setCell ?_ ?_ _ | with_reducible refine Below.alloc ?_ ?_ _ | (simp; done) | (simp; omega))
theorem DoAt.below {w w1 w2 : World} {r s : Value} {k : Int} {key val : ByteArray} (h : DoAt w w1 r s k key val) (hb : Below w1.heap.size w1 w2) : DoAt w w2 r s k key val :=
  ⟨h.X.below hb h.X.lt, h.Y.below hb h.Y.lt, h.R.below hb h.R.lt, h.A.below hb h.A.lt, bel_add' h.bel hb h.bel.size, Nat.le_trans h.size hb.size⟩

set_option maxHeartbeats 2000000 in
theorem do_no (r s : Value) (W : Wd) (i k : Int) (key val : ByteArray) (w : World) (hW : Wld w w.heap.size r s W) (hWo : Words w) (hkz : key.size ≤ maxLen) (hvz : val.size ≤ maxLen) (he : doE W i k key val ≠ 0) :
    Calls Tryd.prog 10 #[.agg #[r, s], .int .i64 i, .agg #[.int .i64 k, .string key, .string val]] w fun e w' => e = .returned (doBad (doE W i k key val)) ∧ Below w.heap.size w w' := by
  obtain ⟨A, c, rfl, hc⟩ := hW.sess.form
  obtain ⟨D, d, rfl, hd⟩ := hW.rows.form
  have HW := Lib.hid hW
  have HWo := Lib.hid hWo
  have t : (doE W i k key val != 0) = true := bne_iff_ne.2 he
  have H0 := Lib.hid (doAt0 w (.slice D W.rows.length d) (.slice A W.ss.length c) k key val)
  clear hW hWo he
  go_enter Tryd.func10, Tryd.ntmps10
  go_wp2_with fail
  refine (checkDo_any _ _ W i k key val _ (HW.out.step H0.out.bel) (HWo.out.below H0.out.bel) hkz hvz).mono ?_
  rintro e w1 ⟨rfl, hb1⟩
  have h1 := H0.out.below hb1
  have r0 := h1.R.cell (j := 0) (by simp)
  have r1 := h1.R.cell (j := 1) (by simp)
  have a0 := h1.A.cell (j := 0) (by simp)
  have a1 := h1.A.cell (j := 1) (by simp)
  have a2 := h1.A.cell (j := 2) (by simp)
  have f0 := h1.R.frozen 0
  have f1 := h1.R.frozen 1
  have g0 := h1.A.frozen 0
  have g1 := h1.A.frozen 1
  have g2 := h1.A.frozen 2
  simp only [List.getElem_cons_zero, List.getElem_cons_succ] at r0 r1 a0 a1 a2
  have B1 := Lib.hid h1.bel
  clear hb1 h1
  go_wp2
  refine bodyPost_ret (v := doBad (doE W i k key val)) (by simp [results, Tryd.results10, go_sem, r0, r1, a0, a1, a2, doBad]) rfl ⟨rfl, ?_⟩
  exact ((((B1.out.setCell (by show _ ≤ w.heap.size + 1 + 1; omega) _).setCell (by show _ ≤ w.heap.size + 1 + 1; omega) _).setCell (by show _ ≤ w.heap.size + 1 + 1 + 1; omega) _).setCell (by show _ ≤ w.heap.size + 1 + 1 + 1; omega) _).setCell (by show _ ≤ w.heap.size + 1 + 1 + 1; omega) _

/-- no two strings lie side by side in block R -/
def NoTwo (w : World) (R : Nat) : Prop := ∀ j x y, w.cell? ⟨R, j, none⟩ = some (.string x) → w.cell? ⟨R, j + 1, none⟩ ≠ some (.string y)
theorem Lst.offN {w w' : World} {B R : Nat} {v : Value} {l : PL} (hR : NoTwo w R) (h : Lst w B v l) (hk : ∀ b, b ≠ R → w'.heap[b]? = w.heap[b]?) : Lst w' B v l := by
  refine ⟨h.form, h.bytes, h.sizes, fun hn => ?_, h.nil⟩
  obtain ⟨b, off, c, e, hb, hc⟩ := h.cells hn
  have hne : b ≠ R := by
    rintro rfl
    obtain ⟨h1, h2⟩ := hc 0 hn
    rw [Nat.zero_mul, Nat.add_zero] at h1 h2
    exact hR _ _ _ h1 h2
  exact ⟨b, off, c, e, hb, fun i hi => ⟨(World.cell?_of_block (hk b hne)).trans (hc i hi).1, (World.cell?_of_block (hk b hne)).trans (hc i hi).2⟩⟩
/-- EndW with the rows' slice named -/
structure EndR (w : World) (base X S : Nat) (r : Value) (W : Wd) : Prop where
  box : RowTo w X 25 2 [r, slc S W.ss.length W.ss.length] ∧ Wld w w.heap.size r (slc S W.ss.length W.ss.length) W ∧ LoV base r
  blk : RowTo w S 46 (W.ss.length * 5) []
  loX : base ≤ X
  loS : base ≤ S
  los : ∀ k j v, k < W.ss.length → j < 4 → w.cell? ⟨S, k * 5 + (j + 1), none⟩ = some v → LoV base v
theorem EndW.r {w : World} {base X S : Nat} {W : Wd} (h : EndW w base X S W) : ∃ r, EndR w base X S r W := by
  obtain ⟨r, hb⟩ := h.box
  exact ⟨r, hb, h.blk, h.loX, h.loS, h.los⟩
theorem EndR.offN {w w' : World} {base X S R : Nat} {r : Value} {W : Wd} (h : EndR w base X S r W) (hX : X ≠ R) (hS : S ≠ R) (hR : NoTwo w R) (hs : w'.heap.size = w.heap.size) (hk : ∀ b, b ≠ R → w'.heap[b]? = w.heap[b]?) : EndR w' base X S r W := by
  obtain ⟨hbox, ⟨hr, hss⟩, hlr⟩ := h.box
  refine ⟨⟨hbox.same (hk X hX), ⟨?_, ?_⟩, hlr⟩, h.blk.same (hk S hS), h.loX, h.loS, fun k j v hk' hj hv => h.los k j v hk' hj ((World.cell?_of_block (hk S hS)).symm.trans hv)⟩
  · rw [hs]; exact hr.offN hR hk
  · rw [hs]
    refine ⟨hss.form, hss.bytes, fun hn => ?_⟩
    obtain ⟨b, off, c, e, hb, hc⟩ := hss.cells hn
    refine ⟨b, off, c, e, hb, fun i hi => ?_⟩
    obtain ⟨v1, v2, v3, v4, q⟩ := hc i hi
    have hbS : b = S := by unfold slc at e; injection e with e; injection e with e; injection e with e; exact e.symm
    have cs : ∀ j, w'.cell? ⟨b, j, none⟩ = w.cell? ⟨b, j, none⟩ := fun j => World.cell?_of_block (hk b (by rw [hbS]; exact hS))
    exact ⟨v1, v2, v3, v4, (cs _).trans q.c0, (cs _).trans q.c1, (cs _).trans q.c2, (cs _).trans q.c3, (cs _).trans q.c4, q.l1.offN hR hk, q.l2.offN hR hk, q.l3.offN hR hk, q.l4.offN hR hk⟩
theorem EndR.below {w w' : World} {base X S : Nat} {r : Value} {W : Wd} (h : EndR w base X S r W) (hb : Below w.heap.size w w') : EndR w' base X S r W := by
  obtain ⟨hbox, hw, hlr⟩ := h.box
  exact ⟨⟨hbox.below hb hbox.lt, hw.step hb, hlr⟩, h.blk.below hb h.blk.lt, h.loX, h.loS, fun k j v hk hj hv => h.los k j v hk hj ((hb.cell (p := ⟨S, k * 5 + (j + 1), none⟩) h.blk.lt).symm.trans hv)⟩
theorem noTwo_answer {w : World} {R : Nat} {x y : Int} {s : ByteArray} (h : RowTo w R 30 3 [.int .i64 x, .string s, .int .i64 y]) : NoTwo w R := by
  intro j a b h1 h2
  have r0 := h.cell (j := 0) (by simp)
  have r2 := h.cell (j := 2) (by simp)
  simp only [List.getElem_cons_zero, List.getElem_cons_succ] at r0 r2
  rcases Nat.lt_or_ge j 3 with hj | hj
  · obtain rfl | rfl | rfl : j = 0 ∨ j = 1 ∨ j = 2 := by omega
    · rw [r0] at h1; cases h1
    · rw [r2] at h2; cases h2
    · rw [r2] at h1; cases h1
  · rw [h.out_ hj] at h1; cases h1
theorem noTwo_world {w : World} {R t : Nat} {a b : Option Addr} {n m c d : Nat} (h : RowTo w R t 2 [.slice a n c, .slice b m d]) : NoTwo w R := by
  intro j x y h1 h2
  have r0 := h.cell (j := 0) (by simp)
  have r1 := h.cell (j := 1) (by simp)
  simp only [List.getElem_cons_zero, List.getElem_cons_succ] at r0 r1
  rcases Nat.lt_or_ge j 2 with hj | hj
  · obtain rfl | rfl : j = 0 ∨ j = 1 := by omega
    · rw [r0] at h1; cases h1
    · rw [r1] at h1; cases h1
  · rw [h.out_ hj] at h1; cases h1
theorem EndR.sess {w : World} {base X S : Nat} {r : Value} {W : Wd} (h : EndR w base X S r W) {i : Nat} (hi : i < W.ss.length) : ∃ v1 v2 v3 v4, Ses w w.heap.size S (i * 5) W.ss[i] v1 v2 v3 v4 := by
  obtain ⟨hbox, ⟨hr, hss⟩, hlr⟩ := h.box
  obtain ⟨b, off, c, e, hb, hc⟩ := hss.cells (by omega)
  unfold slc at e
  injection e with e
  injection e with e
  injection e with e1 e2
  subst e1
  subst e2
  have := hc i hi
  rw [Nat.zero_add] at this
  exact this
theorem EndR.noTwo {w : World} {base X S : Nat} {r : Value} {W : Wd} (h : EndR w base X S r W) : NoTwo w S := by
  intro j x y h1 h2
  rcases Nat.lt_or_ge j (W.ss.length * 5) with hj | hj
  · obtain ⟨v1, v2, v3, v4, q⟩ := h.sess (i := j / 5) (by omega)
    have hm : j % 5 = 0 ∨ j % 5 = 1 ∨ j % 5 = 2 ∨ j % 5 = 3 ∨ j % 5 = 4 := by omega
    rcases hm with hm | hm | hm | hm | hm
    · have := q.c0; rw [show j / 5 * 5 = j by omega, h1] at this; cases this
    · have := q.c1; rw [show j / 5 * 5 + 1 = j by omega, h1] at this; obtain ⟨a, c, e, _⟩ := q.l1.form; rw [e] at this; cases this
    · have := q.c2; rw [show j / 5 * 5 + 2 = j by omega, h1] at this; obtain ⟨a, c, e, _⟩ := q.l2.form; rw [e] at this; cases this
    · have := q.c3; rw [show j / 5 * 5 + 3 = j by omega, h1] at this; obtain ⟨a, c, e, _⟩ := q.l3.form; rw [e] at this; cases this
    · have := q.c4; rw [show j / 5 * 5 + 4 = j by omega, h1] at this; obtain ⟨a, c, e, _⟩ := q.l4.form; rw [e] at this; cases this
  · rw [h.blk.out_ hj] at h1; cases h1
/-- an Error in a transaction fails it -/
theorem EndR.failed {w : World} {base X S : Nat} {r : Value} {W : Wd} (h : EndR w base X S r W) {i : Nat} (hi : i < W.ss.length) (hne : X ≠ S) :
    EndR ((w.setCell ⟨S, i * 5, none⟩ (.int .i64 2)).setCell ⟨S, i * 5 + 4, none⟩ (.slice none 0 0)) base X S r (W.put i { W.ss[i] with st := 2, wr := [] }) := by
  have hn := h.noTwo
  have hk : ∀ b, b ≠ S → ((w.setCell ⟨S, i * 5, none⟩ (.int .i64 2)).setCell ⟨S, i * 5 + 4, none⟩ (.slice none 0 0)).heap[b]? = w.heap[b]? := fun b hb => by rw [Below.heap_setCell _ _ _ _ hb, Below.heap_setCell _ _ _ _ hb]
  have hs : ((w.setCell ⟨S, i * 5, none⟩ (.int .i64 2)).setCell ⟨S, i * 5 + 4, none⟩ (.slice none 0 0)).heap.size = w.heap.size := by simp [World.setCell]
  have hl : (W.put i { W.ss[i] with st := 2, wr := [] }).ss.length = W.ss.length := by unfold Wd.put; simp
  have hall := fun q (hq : q < W.ss.length) => h.sess hq
  obtain ⟨hbox, ⟨hr, hss⟩, hlr⟩ := h.box
  have c0 : ((w.setCell ⟨S, i * 5, none⟩ (.int .i64 2)).setCell ⟨S, i * 5 + 4, none⟩ (.slice none 0 0)).cell? ⟨S, i * 5, none⟩ = some (.int .i64 2) := by
    rw [cell_off _ (by omega)]; exact cell_put h.blk (by omega) _
  have c4 : ((w.setCell ⟨S, i * 5, none⟩ (.int .i64 2)).setCell ⟨S, i * 5 + 4, none⟩ (.slice none 0 0)).cell? ⟨S, i * 5 + 4, none⟩ = some (.slice none 0 0) := cell_put (h.blk.hit _) (by omega) _
  have co : ∀ j, j ≠ i * 5 → j ≠ i * 5 + 4 → ((w.setCell ⟨S, i * 5, none⟩ (.int .i64 2)).setCell ⟨S, i * 5 + 4, none⟩ (.slice none 0 0)).cell? ⟨S, j, none⟩ = w.cell? ⟨S, j, none⟩ := fun j h1 h2 => by rw [cell_off _ h2, cell_off _ h1]
  refine ⟨⟨by rw [hl]; exact hbox.same (hk X hne), ⟨?_, ?_⟩, hlr⟩, by rw [hl]; exact (h.blk.hit _).hit _, h.loX, h.loS, fun k j v hk' hj hv => ?_⟩
  · rw [hs]; exact hr.offN hn hk
  · rw [hs]
    refine ⟨⟨_, _, rfl, Nat.le_refl _⟩, by rw [hl]; exact hss.bytes, fun _ => ⟨S, 0, _, rfl, h.blk.lt, fun q hq => ?_⟩⟩
    rw [hl] at hq
    obtain ⟨v1, v2, v3, v4, z⟩ := hall q hq
    rw [Nat.zero_add]
    by_cases e : i = q
    · subst e
      have eg : (W.put i { W.ss[i] with st := 2, wr := [] }).ss[i]'(by rw [hl]; exact hi) = { W.ss[i] with st := 2, wr := [] } := by simp [Wd.put]
      rw [eg]
      exact ⟨v1, v2, v3, .slice none 0 0, c0, (co _ (by omega) (by omega)).trans z.c1, (co _ (by omega) (by omega)).trans z.c2, (co _ (by omega) (by omega)).trans z.c3, c4, z.l1.offN hn hk, z.l2.offN hn hk, z.l3.offN hn hk, Lst.none_ _ _⟩
    · have eg : (W.put i { W.ss[i] with st := 2, wr := [] }).ss[q]'(by rw [hl]; exact hq) = W.ss[q] := by simp [Wd.put, List.getElem_set_ne e]
      rw [eg]
      exact ⟨v1, v2, v3, v4, (co _ (by omega) (by omega)).trans z.c0, (co _ (by omega) (by omega)).trans z.c1, (co _ (by omega) (by omega)).trans z.c2, (co _ (by omega) (by omega)).trans z.c3, (co _ (by omega) (by omega)).trans z.c4, z.l1.offN hn hk, z.l2.offN hn hk, z.l3.offN hn hk, z.l4.offN hn hk⟩
  · rw [hl] at hk'
    by_cases e : k * 5 + (j + 1) = i * 5 + 4
    · rw [e, c4] at hv; injection hv with hv; rw [← hv]; exact LoV.non _ _ _
    · rw [co _ (by omega) e] at hv; exact h.los k j v hk' hj hv
/-- a copy, behind a pointer -/
theorem wput_at_ {V : Wd} {i : Nat} {x : Sess} (h : i < V.ss.length) : (V.put i x).at i = x := by unfold Wd.at Wd.put; simp [List.getD_eq_getElem?_getD, List.getElem?_set_self h]
theorem OwnW.ownD {w : World} {base gR S X : Nat} {G : Nat → Nat → Nat} {W : Wd} {xs : List Value} (h : OwnW w base gR S G W) (hx : RowTo w X 25 2 xs) (hX : X < base) (hz : SzW W) :
    OwnD ((w.setCell ⟨X, 0, none⟩ (sl gR W.rows.length)).setCell ⟨X, 1, none⟩ (sl S W.ss.length)) X S gR W.rows.length G (fun i j => ((W.at i).li j).length) W := by
  have loG : ∀ i j, i < W.ss.length → j < 4 → X < G i j := fun i j hi hj => Nat.lt_of_lt_of_le hX (h.sess.lo i j hi hj)
  have hR := h.loR
  have hS := h.loS
  have cw : ∀ j, ((w.setCell ⟨X, 0, none⟩ (sl gR W.rows.length)).setCell ⟨X, 1, none⟩ (sl S W.ss.length)).cell? ⟨S, j, none⟩ = w.cell? ⟨S, j, none⟩ := fun j => by
    rw [World.cell?_setCell_other _ _ _ _ (fun e => by injection e with e; omega), World.cell?_setCell_other _ _ _ _ (fun e => by injection e with e; omega)]
  have hrow : RowTo ((w.setCell ⟨X, 0, none⟩ (sl gR W.rows.length)).setCell ⟨X, 1, none⟩ (sl S W.ss.length)) X 25 2 ([] ++ [sl gR W.rows.length] ++ [sl S W.ss.length]) :=
    (hx.nil.push (by simp) _ rfl).push (by simp) _ (by simp)
  refine ⟨hrow, ⟨(h.rows.other (by show X ≠ gR; omega) _).other (by show X ≠ gR; omega) _, Nat.le_refl _, by have := hz.rows.1; omega⟩, (h.sess.blk.other (by show X ≠ S; omega) _).other (by show X ≠ S; omega) _, fun i hi => (cw _).trans (h.sess.st i hi hi), fun i j hi hj => ?_, fun i j hi hj => ?_, by omega, by omega, h.neS, fun i j hi hj => by have := loG i j hi hj; omega, fun i j hi hj => h.sess.ne i j hi hj, fun i j hi hj => h.neG i j hi hj, fun i j i' j' hi hj hi' hj' e => h.sess.inj i j i' j' hi hj hi' hj' e⟩
  · rw [cw, h.sess.cs i j hi hi hj, getD_at hi]; rfl
  · rw [getD_at hi]
    have hg := loG i j hi hj
    exact ⟨((h.sess.ls i j hi hi hj).other (by show X ≠ G i j; omega) _).other (by show X ≠ G i j; omega) _, Nat.le_refl _, by have := (hz.li i j hi hj).1; omega⟩

set_option maxHeartbeats 2000000 in
theorem do_ok (r s : Value) (W : Wd) (i : Nat) (k : Int) (key val : ByteArray) (w : World) (hW : Wld w w.heap.size r s W) (hWo : Words w) (hkz : key.size ≤ maxLen) (hvz : val.size ≤ maxLen) (he : doE W i k key val = 0) :
    Calls Tryd.prog 10 #[.agg #[r, s], .int .i64 i, .agg #[.int .i64 k, .string key, .string val]] w fun e w' => ∃ r' s', e = .returned (doGood r' s' (doM W i k key val).2 ((doM W i k key val).1.at i).st) ∧ Wld w' w'.heap.size r' s' (doM W i k key val).1 ∧ Below w.heap.size w w' := by
  obtain ⟨A, c, rfl, hc⟩ := hW.sess.form
  obtain ⟨D, d, rfl, hd⟩ := hW.rows.form
  have HW := Lib.hid hW
  have HWo := Lib.hid hWo
  have t : (doE W i k key val != 0) = false := bne_eq_false_iff_eq.2 he
  obtain ⟨hwb, hi, hchk⟩ : worldB W = true ∧ i < W.ss.length ∧ checkE k key val = 0 := by
    unfold doE at he
    split at he
    · cases he
    · rename_i h1
      split at he
      · cases he
      · rename_i h2
        exact ⟨by simpa using h1, by omega, he⟩
  have hwo := worldB_iff.1 hwb
  have hz := worldOk_sz hwo
  have HZ := Lib.hid hz
  have HK := Lib.hid hchk
  have HWK := Lib.hid hwo
  clear hwb hwo hz hchk
  have H0 := Lib.hid (doAt0 w (.slice D W.rows.length d) (.slice A W.ss.length c) k key val)
  clear hW hWo he
  go_enter Tryd.func10, Tryd.ntmps10
  go_wp2_with fail
  refine (checkDo_any _ _ W i k key val _ (HW.out.step H0.out.bel) (HWo.out.below H0.out.bel) hkz hvz).mono ?_
  rintro e w1 ⟨rfl, hb1⟩
  have h1 := H0.out.below hb1
  have x0 := h1.X.cell (j := 0) (by simp)
  have x1 := h1.X.cell (j := 1) (by simp)
  have y0 := h1.Y.cell (j := 0) (by simp)
  have y1 := h1.Y.cell (j := 1) (by simp)
  have y2 := h1.Y.cell (j := 2) (by simp)
  simp only [List.getElem_cons_zero, List.getElem_cons_succ] at x0 x1 y0 y1 y2
  have H1 := Lib.hid h1
  clear hb1 h1
  go_wp2_with fail
  refine (copy_any _ _ W _ (HW.out.step H1.out.bel)).mono ?_
  rintro e w2 ⟨gR, S, G, rfl, hown, hb2⟩
  have h2 := H1.out.below hb2
  have hD := hown.ownD h2.X (by have := H1.out.size; omega) HZ.out
  have hlo : LoD w.heap.size w.heap.size S gR G W.ss.length := ⟨Nat.le_refl _, by have := hown.loS; have := H1.out.size; omega, by have := hown.loR; have := H1.out.size; omega, fun i j hi hj => by have := hown.sess.lo i j hi hj; have := H1.out.size; omega⟩
  have HD := Lib.hid hD
  have HO := Lib.hid hown
  have H2 := Lib.hid h2
  have HLO := Lib.hid hlo
  obtain ⟨u0, x0⟩ := h2.X.any (j := 0) (by omega)
  obtain ⟨u1, x1⟩ := h2.X.any (j := 1) (by omega)
  have f0 := h2.X.frozen 0
  have f1 := h2.X.frozen 1
  have y0 := h2.Y.cell (j := 0) (by simp)
  have y1 := h2.Y.cell (j := 1) (by simp)
  have y2 := h2.Y.cell (j := 2) (by simp)
  simp only [List.getElem_cons_zero, List.getElem_cons_succ] at y0 y1 y2
  clear hb2 h2 hD hown hlo
  unfold sl at HD ⊢
  go_wp2_with fail
  have hfine := didM_ok HWK.out hi HK.out
  have htx := (didM_ans HWK.out hi k key val).len
  obtain ⟨q, hq⟩ : ∃ q, q = didM W i k key val := ⟨_, rfl⟩
  have HE := Lib.hid (execute_any w.heap.size w.heap.size S gR W.rows.length G (fun i j => ((W.at i).li j).length) W i k key val _ HD.out HLO.out HWK.out (by have := H2.out.size; simp [World.setCell]; omega) hi HK.out (HWo.out.below ((H2.out.bel.setCell (Nat.le_refl _) _).setCell (Nat.le_refl _) _)))
  rw [← hq] at HE hfine htx
  refine HE.out.mono ?_
  rintro e w4 hp
  obtain rfl := hp.1
  have hsz : ∀ u v, ((w2.setCell ⟨w.heap.size, 0, none⟩ u).setCell ⟨w.heap.size, 1, none⟩ v).heap.size = w2.heap.size := fun u v => by simp [World.setCell]
  have hrest : ∀ b, w.heap.size < b → b < w.heap.size + 1 + 1 + 1 + 1 → w4.heap[b]? = w2.heap[b]? := fun b h1 h2 => by
    have h3 := H2.out.size
    have h4 := HO.out.loS
    have h5 := HO.out.loR
    have h6 := H1.out.size
    rw [hp.2.2.2 b (by rw [hsz]; omega) (by omega) (by omega) (by omega) (fun i j hi hj => by have := HO.out.sess.lo i j hi hj; omega), Below.heap_setCell _ _ _ _ (by show b ≠ w.heap.size; omega), Below.heap_setCell _ _ _ _ (by show b ≠ w.heap.size; omega)]
  have R4 := H2.out.R.same (hrest _ (by omega) (by omega))
  have A4 := H2.out.A.same (hrest _ (by omega) (by omega))
  obtain ⟨rv, hEnd⟩ := hp.2.1.r
  have hBel : Below w.heap.size w w4 := ((H2.out.bel.setCell (Nat.le_refl _) _).setCell (Nat.le_refl _) _).trans hp.2.2.1
  obtain ⟨hbox, hwl, hlr⟩ := hEnd.box
  have hqi : i < q.1.ss.length := by rw [hfine.2]; exact hi
  obtain ⟨v1, v2, v3, v4, hses⟩ := hEnd.sess hqi
  have hsi := hses.c0
  obtain ⟨rA, rc, rfl, _⟩ := hwl.rows.form
  have z0 := hbox.cell (j := 0) (by simp)
  have z1 := hbox.cell (j := 1) (by simp)
  simp only [List.getElem_cons_zero, List.getElem_cons_succ] at z0 z1
  unfold slc at z1
  have hqi' : (i : Int) < (q.1.ss.length : Int) := by omega
  have hSw := hEnd.blk.lt
  have hXw := hbox.lt
  have fS0 := hEnd.blk.frozen (i * 5)
  have fS4 := hEnd.blk.frozen (i * 5 + 4)
  obtain ⟨u4, uS4⟩ := hEnd.blk.any (j := i * 5 + 4) (by omega)
  have hRw := R4.lt
  have hAw := A4.lt
  have hXS : w.heap.size ≠ S := fun e => by have := HO.out.loS; have := H1.out.size; omega
  have HP := Lib.hid hEnd
  have HB := Lib.hid hBel
  have HR := Lib.hid R4
  have HA := Lib.hid A4
  have HF := Lib.hid hfine
  have HQ := Lib.hid hq
  clear hp hrest R4 A4 hEnd hBel hbox hwl hlr hses hfine hq HE hsz x0 x1 f0 f1 y0 y1 y2
  unfold ansV
  have hRS : w.heap.size + 1 + 1 ≠ S := fun e => by have := HO.out.loS; have := H1.out.size; omega
  have hRS3 : w.heap.size + 1 + 1 + 1 ≠ S := fun e => by have := HO.out.loS; have := H1.out.size; omega
  by_cases hcase : q.2.kind = 4 ∧ q.1.ss[i].st = 1
  · have c1 : (q.2.kind == 4) = true := beq_iff_eq.2 hcase.1
    have c2 : (q.1.ss[i].st == 1) = true := beq_iff_eq.2 hcase.2
    have HC := Lib.hid hcase
    clear hcase
    go_wp2
    have hE5 := (HP.out.failed hqi hXS).below ((Below.refl _ _).alloc (Nat.le_refl _) (.cells #[.int .i64 q.2.kind, .string q.2.text, .int .i64 0] 30))
    have hR5 := ((HR.out.other (p := ⟨S, i * 5, none⟩) (fun e => hRS e.symm) (.int .i64 2)).other (p := ⟨S, i * 5 + 4, none⟩) (fun e => hRS e.symm) (.slice none 0 0)).alloc (.cells #[.int .i64 q.2.kind, .string q.2.text, .int .i64 0] 30)
    have hA5' := ((HA.out.other (p := ⟨S, i * 5, none⟩) (fun e => hRS3 e.symm) (.int .i64 2)).other (p := ⟨S, i * 5 + 4, none⟩) (fun e => hRS3 e.symm) (.slice none 0 0)).alloc (.cells #[.int .i64 q.2.kind, .string q.2.text, .int .i64 0] 30)
    have hB5 := ((HB.out.setCell (p := ⟨S, i * 5, none⟩) HLO.out.s (.int .i64 2)).setCell (p := ⟨S, i * 5 + 4, none⟩) HLO.out.s (.slice none 0 0)).alloc (by simp [World.setCell]; omega) (.cells #[.int .i64 q.2.kind, .string q.2.text, .int .i64 0] 30)
    have hz5 : (((w4.setCell ⟨S, i * 5, none⟩ (.int .i64 2)).setCell ⟨S, i * 5 + 4, none⟩ (.slice none 0 0)).alloc (.cells #[.int .i64 q.2.kind, .string q.2.text, .int .i64 0] 30)).heap.size = w4.heap.size + 1 := by simp [World.setCell]
    have hNew := RowTo.whole ((w4.setCell ⟨S, i * 5, none⟩ (.int .i64 2)).setCell ⟨S, i * 5 + 4, none⟩ (.slice none 0 0)) #[.int .i64 q.2.kind, .string q.2.text, .int .i64 0] 30
    rw [show ((w4.setCell ⟨S, i * 5, none⟩ (.int .i64 2)).setCell ⟨S, i * 5 + 4, none⟩ (.slice none 0 0)).heap.size = w4.heap.size by simp [World.setCell]] at hNew
    have hq5 : i < (q.1.put i { q.1.ss[i] with st := 2, wr := [] }).ss.length := by rw [wput_len]; exact hqi
    have hst5 : (q.1.put i { q.1.ss[i] with st := 2, wr := [] }).ss[i].st = 2 := by simp [Wd.put]
    obtain ⟨u1, u2, u3, u5, hs5⟩ := hE5.sess hq5
    have s0 := hs5.c0
    rw [hst5] at s0
    have zn : ∀ j u, w4.cell? ⟨w.heap.size, j, none⟩ = some u → (((w4.setCell ⟨S, i * 5, none⟩ (.int .i64 2)).setCell ⟨S, i * 5 + 4, none⟩ (.slice none 0 0)).alloc (.cells #[.int .i64 q.2.kind, .string q.2.text, .int .i64 0] 30)).cell? ⟨w.heap.size, j, none⟩ = some u := fun j u h => by rw [World.cell?_alloc_lt _ _ _ (by simp [World.setCell]; omega), World.cell?_setCell_other _ _ _ _ (fun e => by injection e with e; exact hXS e.symm), World.cell?_setCell_other _ _ _ _ (fun e => by injection e with e; exact hXS e.symm)]; exact h
    have z0 := zn 0 _ z0
    have z1 := zn 1 _ z1
    have a0 := hNew.cell (j := 0) (by simp)
    have a1 := hNew.cell (j := 1) (by simp)
    simp only [List.getElem_cons_zero, List.getElem_cons_succ] at a0 a1
    have hX5 : w.heap.size < (((w4.setCell ⟨S, i * 5, none⟩ (.int .i64 2)).setCell ⟨S, i * 5 + 4, none⟩ (.slice none 0 0)).alloc (.cells #[.int .i64 q.2.kind, .string q.2.text, .int .i64 0] 30)).heap.size := by rw [hz5]; omega
    have hA5 : w4.heap.size < (((w4.setCell ⟨S, i * 5, none⟩ (.int .i64 2)).setCell ⟨S, i * 5 + 4, none⟩ (.slice none 0 0)).alloc (.cells #[.int .i64 q.2.kind, .string q.2.text, .int .i64 0] 30)).heap.size := by rw [hz5]; omega
    have hS5 : S < (((w4.setCell ⟨S, i * 5, none⟩ (.int .i64 2)).setCell ⟨S, i * 5 + 4, none⟩ (.slice none 0 0)).alloc (.cells #[.int .i64 q.2.kind, .string q.2.text, .int .i64 0] 30)).heap.size := by rw [hz5]; omega
    have HDM := Lib.hid (show doM W i k key val = (q.1.put i { q.1.ss[i] with st := 2, wr := [] }, q.2) by rw [doM, ← HQ.out]; simp only [getD_at hqi]; rw [if_pos HC.out])
    have hXR : w.heap.size ≠ w.heap.size + 1 + 1 := by omega
    have hAR : w4.heap.size ≠ w.heap.size + 1 + 1 := by omega
    have hSR : S ≠ w.heap.size + 1 + 1 := fun e => hRS e.symm
    have hXA : w.heap.size ≠ w.heap.size + 1 + 1 + 1 := by omega
    have hAA : w4.heap.size ≠ w.heap.size + 1 + 1 + 1 := by omega
    have hSA : S ≠ w.heap.size + 1 + 1 + 1 := fun e => hRS3 e.symm
    have HR5 := Lib.hid hR5
    have HA5 := Lib.hid hA5'
    have HE5 := Lib.hid hE5
    have HB5 := Lib.hid hB5
    have hRw5 := hR5.lt
    have hAw5 := hA5'.lt
    clear hR5 hA5' hE5 hB5 zn hz5 hNew hs5 hst5 hq5
    generalize ((w4.setCell ⟨S, i * 5, none⟩ (.int .i64 2)).setCell ⟨S, i * 5 + 4, none⟩ (.slice none 0 0)).alloc (.cells #[.int .i64 q.2.kind, .string q.2.text, .int .i64 0] 30) = W5 at *
    have kb := Below.refl W5.heap.size W5
    have HS := Lib.hid (show W5.drew.cell? ⟨w.heap.size, 0, none⟩ = some (.slice rA q.1.rows.length rc) ∧ W5.drew.cell? ⟨w.heap.size, 1, none⟩ = some (.slice (some ⟨S, 0, none⟩) q.1.ss.length q.1.ss.length) ∧ W5.drew.cell? ⟨w4.heap.size, 0, none⟩ = some (.int .i64 q.2.kind) ∧ W5.drew.cell? ⟨w4.heap.size, 1, none⟩ = some (.string q.2.text) ∧ W5.drew.cell? ⟨S, i * 5, none⟩ = some (.int .i64 2) from ⟨z0, z1, a0, a1, s0⟩)
    go_region_held3 (fun wx => wx.cell? ⟨w.heap.size, 0, none⟩ = some (.slice rA q.1.rows.length rc) ∧ wx.cell? ⟨w.heap.size, 1, none⟩ = some (.slice (some ⟨S, 0, none⟩) q.1.ss.length q.1.ss.length) ∧ wx.cell? ⟨w4.heap.size, 0, none⟩ = some (.int .i64 q.2.kind) ∧ wx.cell? ⟨w4.heap.size, 1, none⟩ = some (.string q.2.text) ∧ wx.cell? ⟨S, i * 5, none⟩ = some (.int .i64 2))
      (first
        | with_reducible exact ⟨z0, z1, a0, a1, s0⟩
        | with_reducible exact HS.out
        | with_reducible exact ⟨(kb.cell (p := ⟨w.heap.size, 0, none⟩) hX5).trans z0, (kb.cell (p := ⟨w.heap.size, 1, none⟩) hX5).trans z1, (kb.cell (p := ⟨w4.heap.size, 0, none⟩) hA5).trans a0, (kb.cell (p := ⟨w4.heap.size, 1, none⟩) hA5).trans a1, (kb.cell (p := ⟨S, i * 5, none⟩) hS5).trans s0⟩
        | with_reducible exact ⟨cell_set3 (cell_set2 ((kb.cell (p := ⟨w.heap.size, 0, none⟩) hX5).trans z0) hXR) hXA, cell_set3 (cell_set2 ((kb.cell (p := ⟨w.heap.size, 1, none⟩) hX5).trans z1) hXR) hXA, cell_set3 (cell_set2 ((kb.cell (p := ⟨w4.heap.size, 0, none⟩) hA5).trans a0) hAR) hAA, cell_set3 (cell_set2 ((kb.cell (p := ⟨w4.heap.size, 1, none⟩) hA5).trans a1) hAR) hAA, cell_set3 (cell_set2 ((kb.cell (p := ⟨S, i * 5, none⟩) hS5).trans s0) hSR) hSA⟩
        | with_reducible exact ⟨cell_set2 ((kb.cell (p := ⟨w.heap.size, 0, none⟩) hX5).trans z0) hXR, cell_set2 ((kb.cell (p := ⟨w.heap.size, 1, none⟩) hX5).trans z1) hXR, cell_set2 ((kb.cell (p := ⟨w4.heap.size, 0, none⟩) hA5).trans a0) hAR, cell_set2 ((kb.cell (p := ⟨w4.heap.size, 1, none⟩) hA5).trans a1) hAR, cell_set2 ((kb.cell (p := ⟨S, i * 5, none⟩) hS5).trans s0) hSR⟩)
      (first
        | (
          go_at_call 25
          refine (clone_any q.2.text _ (by omega)).mono ?_
          rintro e w6 ⟨rfl, hy⟩
          have kb : Below W5.heap.size W5 w6 := by first | exact hy | exact bel_addN kb hy kb.size | exact bel_add kb hy kb.size
          have R6 := HR5.out.below kb hRw5
          have A6 := HA5.out.below kb hAw5
          have r0 := R6.cell (j := 0) (by simp)
          have r1 := R6.cell (j := 1) (by simp)
          have b0 := A6.cell (j := 0) (by simp)
          have b1 := A6.cell (j := 1) (by simp)
          have b2 := A6.cell (j := 2) (by simp)
          have g0 := R6.frozen 0
          have g1 := R6.frozen 1
          have k0 := A6.frozen 0
          have k1 := A6.frozen 1
          have k2 := A6.frozen 2
          simp only [List.getElem_cons_zero, List.getElem_cons_succ] at r0 r1 b0 b1 b2))
    all_goals go_wp2
    all_goals refine bodyPost_ret (v := doGood (.slice rA q.1.rows.length rc) (.slice (some ⟨S, 0, none⟩) q.1.ss.length q.1.ss.length) q.2 2) (by simp [results, Tryd.results10, go_sem, r0, r1, b0, b1, b2, doGood]) rfl ?_
    all_goals
      have hk1 : ∀ b, b ≠ w.heap.size + 1 + 1 → ((w6.setCell ⟨w.heap.size + 1 + 1, 0, none⟩ (.slice rA q.1.rows.length rc)).setCell ⟨w.heap.size + 1 + 1, 1, none⟩ (.slice (some ⟨S, 0, none⟩) q.1.ss.length q.1.ss.length)).heap[b]? = w6.heap[b]? := fun b hb => by rw [Below.heap_setCell _ _ _ _ hb, Below.heap_setCell _ _ _ _ hb]
      have e1 := (HE5.out.below kb).offN (R := w.heap.size + 1 + 1) (by omega) hSR (noTwo_world R6) (by simp [World.setCell]) hk1
      have A7 := (A6.other (p := ⟨w.heap.size + 1 + 1, 0, none⟩) (by show w.heap.size + 1 + 1 ≠ _; omega) (.slice rA q.1.rows.length rc)).other (p := ⟨w.heap.size + 1 + 1, 1, none⟩) (by show w.heap.size + 1 + 1 ≠ _; omega) (.slice (some ⟨S, 0, none⟩) q.1.ss.length q.1.ss.length)
      have hk2 : ∀ (x y z : Value) b, b ≠ w.heap.size + 1 + 1 + 1 → (((((w6.setCell ⟨w.heap.size + 1 + 1, 0, none⟩ (.slice rA q.1.rows.length rc)).setCell ⟨w.heap.size + 1 + 1, 1, none⟩ (.slice (some ⟨S, 0, none⟩) q.1.ss.length q.1.ss.length)).setCell ⟨w.heap.size + 1 + 1 + 1, 0, none⟩ x).setCell ⟨w.heap.size + 1 + 1 + 1, 1, none⟩ y).setCell ⟨w.heap.size + 1 + 1 + 1, 2, none⟩ z).heap[b]? = ((w6.setCell ⟨w.heap.size + 1 + 1, 0, none⟩ (.slice rA q.1.rows.length rc)).setCell ⟨w.heap.size + 1 + 1, 1, none⟩ (.slice (some ⟨S, 0, none⟩) q.1.ss.length q.1.ss.length)).heap[b]? := fun x y z b hb => by rw [Below.heap_setCell _ _ _ _ hb, Below.heap_setCell _ _ _ _ hb, Below.heap_setCell _ _ _ _ hb]
      have e2 := e1.offN (R := w.heap.size + 1 + 1 + 1) (w' := ((((w6.setCell ⟨w.heap.size + 1 + 1, 0, none⟩ (.slice rA q.1.rows.length rc)).setCell ⟨w.heap.size + 1 + 1, 1, none⟩ (.slice (some ⟨S, 0, none⟩) q.1.ss.length q.1.ss.length)).setCell ⟨w.heap.size + 1 + 1 + 1, 0, none⟩ (.int .i64 q.2.kind)).setCell ⟨w.heap.size + 1 + 1 + 1, 1, none⟩ (.string q.2.text)).setCell ⟨w.heap.size + 1 + 1 + 1, 2, none⟩ (.int .i64 2)) (by omega) (fun e => hRS3 e.symm) (noTwo_answer A7) (by simp [World.setCell]) (hk2 _ _ _)
      have bf := (((((HB5.out.trans (kb.mono (by omega))).setCell (p := ⟨w.heap.size + 1 + 1, 0, none⟩) (by show w.heap.size ≤ w.heap.size + 1 + 1; omega) (.slice rA q.1.rows.length rc)).setCell (p := ⟨w.heap.size + 1 + 1, 1, none⟩) (by show w.heap.size ≤ w.heap.size + 1 + 1; omega) (.slice (some ⟨S, 0, none⟩) q.1.ss.length q.1.ss.length)).setCell (p := ⟨w.heap.size + 1 + 1 + 1, 0, none⟩) (by show w.heap.size ≤ w.heap.size + 1 + 1 + 1; omega) (.int .i64 q.2.kind)).setCell (p := ⟨w.heap.size + 1 + 1 + 1, 1, none⟩) (by show w.heap.size ≤ w.heap.size + 1 + 1 + 1; omega) (.string q.2.text)).setCell (p := ⟨w.heap.size + 1 + 1 + 1, 2, none⟩) (by show w.heap.size ≤ w.heap.size + 1 + 1 + 1; omega) (.int .i64 2)
      rw [HDM.out]
      refine ⟨.slice rA q.1.rows.length rc, .slice (some ⟨S, 0, none⟩) q.1.ss.length q.1.ss.length, (by simp only [wput_at_ hqi]), ?_, bf⟩
      have := e2.box.2.1
      rw [wput_len] at this
      exact this
  · have HC := Lib.hid hcase
    cases c1 : (q.2.kind == 4)
    · clear hcase
      go_wp2
      have hE5 := HP.out.below ((Below.refl _ _).alloc (Nat.le_refl _) (.cells #[.int .i64 q.2.kind, .string q.2.text, .int .i64 0] 30))
      have hR5 := HR.out.alloc (.cells #[.int .i64 q.2.kind, .string q.2.text, .int .i64 0] 30)
      have hA5' := HA.out.alloc (.cells #[.int .i64 q.2.kind, .string q.2.text, .int .i64 0] 30)
      have hB5 := HB.out.alloc (by omega) (.cells #[.int .i64 q.2.kind, .string q.2.text, .int .i64 0] 30)
      have hz5 : (w4.alloc (.cells #[.int .i64 q.2.kind, .string q.2.text, .int .i64 0] 30)).heap.size = w4.heap.size + 1 := by simp
      have hNew := RowTo.whole w4 #[.int .i64 q.2.kind, .string q.2.text, .int .i64 0] 30
      obtain ⟨u1, u2, u3, u5, hs5⟩ := hE5.sess hqi
      have s0 := hs5.c0
      have zn : ∀ j u, w4.cell? ⟨w.heap.size, j, none⟩ = some u → (w4.alloc (.cells #[.int .i64 q.2.kind, .string q.2.text, .int .i64 0] 30)).cell? ⟨w.heap.size, j, none⟩ = some u := fun j u h => by rw [World.cell?_alloc_lt _ _ _ hXw]; exact h
      have z0 := zn 0 _ z0
      have z1 := zn 1 _ z1
      have a0 := hNew.cell (j := 0) (by simp)
      have a1 := hNew.cell (j := 1) (by simp)
      simp only [List.getElem_cons_zero, List.getElem_cons_succ] at a0 a1
      have hX5 : w.heap.size < (w4.alloc (.cells #[.int .i64 q.2.kind, .string q.2.text, .int .i64 0] 30)).heap.size := by rw [hz5]; omega
      have hA5 : w4.heap.size < (w4.alloc (.cells #[.int .i64 q.2.kind, .string q.2.text, .int .i64 0] 30)).heap.size := by rw [hz5]; omega
      have hS5 : S < (w4.alloc (.cells #[.int .i64 q.2.kind, .string q.2.text, .int .i64 0] 30)).heap.size := by rw [hz5]; omega
      have HDM := Lib.hid (show doM W i k key val = q by rw [doM, ← HQ.out]; simp only [getD_at hqi]; rw [if_neg HC.out])
      have hXR : w.heap.size ≠ w.heap.size + 1 + 1 := by omega
      have hAR : w4.heap.size ≠ w.heap.size + 1 + 1 := by omega
      have hSR : S ≠ w.heap.size + 1 + 1 := fun e => hRS e.symm
      have hXA : w.heap.size ≠ w.heap.size + 1 + 1 + 1 := by omega
      have hAA : w4.heap.size ≠ w.heap.size + 1 + 1 + 1 := by omega
      have hSA : S ≠ w.heap.size + 1 + 1 + 1 := fun e => hRS3 e.symm
      have HR5 := Lib.hid hR5
      have HA5 := Lib.hid hA5'
      have HE5 := Lib.hid hE5
      have HB5 := Lib.hid hB5
      have hRw5 := hR5.lt
      have hAw5 := hA5'.lt
      clear hR5 hA5' hE5 hB5 zn hz5 hNew hs5
      generalize w4.alloc (.cells #[.int .i64 q.2.kind, .string q.2.text, .int .i64 0] 30) = W5 at *
      have kb := Below.refl W5.heap.size W5
      have HS := Lib.hid (show W5.drew.cell? ⟨w.heap.size, 0, none⟩ = some (.slice rA q.1.rows.length rc) ∧ W5.drew.cell? ⟨w.heap.size, 1, none⟩ = some (.slice (some ⟨S, 0, none⟩) q.1.ss.length q.1.ss.length) ∧ W5.drew.cell? ⟨w4.heap.size, 0, none⟩ = some (.int .i64 q.2.kind) ∧ W5.drew.cell? ⟨w4.heap.size, 1, none⟩ = some (.string q.2.text) ∧ W5.drew.cell? ⟨S, i * 5, none⟩ = some (.int .i64 q.1.ss[i].st) from ⟨z0, z1, a0, a1, s0⟩)
      go_region_held3 (fun wx => wx.cell? ⟨w.heap.size, 0, none⟩ = some (.slice rA q.1.rows.length rc) ∧ wx.cell? ⟨w.heap.size, 1, none⟩ = some (.slice (some ⟨S, 0, none⟩) q.1.ss.length q.1.ss.length) ∧ wx.cell? ⟨w4.heap.size, 0, none⟩ = some (.int .i64 q.2.kind) ∧ wx.cell? ⟨w4.heap.size, 1, none⟩ = some (.string q.2.text) ∧ wx.cell? ⟨S, i * 5, none⟩ = some (.int .i64 q.1.ss[i].st))
        (first
          | with_reducible exact ⟨z0, z1, a0, a1, s0⟩
          | with_reducible exact HS.out
          | with_reducible exact ⟨(kb.cell (p := ⟨w.heap.size, 0, none⟩) hX5).trans z0, (kb.cell (p := ⟨w.heap.size, 1, none⟩) hX5).trans z1, (kb.cell (p := ⟨w4.heap.size, 0, none⟩) hA5).trans a0, (kb.cell (p := ⟨w4.heap.size, 1, none⟩) hA5).trans a1, (kb.cell (p := ⟨S, i * 5, none⟩) hS5).trans s0⟩
          | with_reducible exact ⟨cell_set3 (cell_set2 ((kb.cell (p := ⟨w.heap.size, 0, none⟩) hX5).trans z0) hXR) hXA, cell_set3 (cell_set2 ((kb.cell (p := ⟨w.heap.size, 1, none⟩) hX5).trans z1) hXR) hXA, cell_set3 (cell_set2 ((kb.cell (p := ⟨w4.heap.size, 0, none⟩) hA5).trans a0) hAR) hAA, cell_set3 (cell_set2 ((kb.cell (p := ⟨w4.heap.size, 1, none⟩) hA5).trans a1) hAR) hAA, cell_set3 (cell_set2 ((kb.cell (p := ⟨S, i * 5, none⟩) hS5).trans s0) hSR) hSA⟩
          | with_reducible exact ⟨cell_set2 ((kb.cell (p := ⟨w.heap.size, 0, none⟩) hX5).trans z0) hXR, cell_set2 ((kb.cell (p := ⟨w.heap.size, 1, none⟩) hX5).trans z1) hXR, cell_set2 ((kb.cell (p := ⟨w4.heap.size, 0, none⟩) hA5).trans a0) hAR, cell_set2 ((kb.cell (p := ⟨w4.heap.size, 1, none⟩) hA5).trans a1) hAR, cell_set2 ((kb.cell (p := ⟨S, i * 5, none⟩) hS5).trans s0) hSR⟩)
        (first
          | (
            go_at_call 25
            refine (clone_any q.2.text _ (by omega)).mono ?_
            rintro e w6 ⟨rfl, hy⟩
            have kb : Below W5.heap.size W5 w6 := by first | exact hy | exact bel_addN kb hy kb.size | exact bel_add kb hy kb.size
            have R6 := HR5.out.below kb hRw5
            have A6 := HA5.out.below kb hAw5
            have r0 := R6.cell (j := 0) (by simp)
            have r1 := R6.cell (j := 1) (by simp)
            have b0 := A6.cell (j := 0) (by simp)
            have b1 := A6.cell (j := 1) (by simp)
            have b2 := A6.cell (j := 2) (by simp)
            have g0 := R6.frozen 0
            have g1 := R6.frozen 1
            have k0 := A6.frozen 0
            have k1 := A6.frozen 1
            have k2 := A6.frozen 2
            simp only [List.getElem_cons_zero, List.getElem_cons_succ] at r0 r1 b0 b1 b2))
      all_goals go_wp2
      all_goals refine bodyPost_ret (v := doGood (.slice rA q.1.rows.length rc) (.slice (some ⟨S, 0, none⟩) q.1.ss.length q.1.ss.length) q.2 q.1.ss[i].st) (by simp [results, Tryd.results10, go_sem, r0, r1, b0, b1, b2, doGood]) rfl ?_
      all_goals
        have hk1 : ∀ b, b ≠ w.heap.size + 1 + 1 → ((w6.setCell ⟨w.heap.size + 1 + 1, 0, none⟩ (.slice rA q.1.rows.length rc)).setCell ⟨w.heap.size + 1 + 1, 1, none⟩ (.slice (some ⟨S, 0, none⟩) q.1.ss.length q.1.ss.length)).heap[b]? = w6.heap[b]? := fun b hb => by rw [Below.heap_setCell _ _ _ _ hb, Below.heap_setCell _ _ _ _ hb]
        have e1 := (HE5.out.below kb).offN (R := w.heap.size + 1 + 1) (by omega) hSR (noTwo_world R6) (by simp [World.setCell]) hk1
        have A7 := (A6.other (p := ⟨w.heap.size + 1 + 1, 0, none⟩) (by show w.heap.size + 1 + 1 ≠ _; omega) (.slice rA q.1.rows.length rc)).other (p := ⟨w.heap.size + 1 + 1, 1, none⟩) (by show w.heap.size + 1 + 1 ≠ _; omega) (.slice (some ⟨S, 0, none⟩) q.1.ss.length q.1.ss.length)
        have hk2 : ∀ (x y z : Value) b, b ≠ w.heap.size + 1 + 1 + 1 → (((((w6.setCell ⟨w.heap.size + 1 + 1, 0, none⟩ (.slice rA q.1.rows.length rc)).setCell ⟨w.heap.size + 1 + 1, 1, none⟩ (.slice (some ⟨S, 0, none⟩) q.1.ss.length q.1.ss.length)).setCell ⟨w.heap.size + 1 + 1 + 1, 0, none⟩ x).setCell ⟨w.heap.size + 1 + 1 + 1, 1, none⟩ y).setCell ⟨w.heap.size + 1 + 1 + 1, 2, none⟩ z).heap[b]? = ((w6.setCell ⟨w.heap.size + 1 + 1, 0, none⟩ (.slice rA q.1.rows.length rc)).setCell ⟨w.heap.size + 1 + 1, 1, none⟩ (.slice (some ⟨S, 0, none⟩) q.1.ss.length q.1.ss.length)).heap[b]? := fun x y z b hb => by rw [Below.heap_setCell _ _ _ _ hb, Below.heap_setCell _ _ _ _ hb, Below.heap_setCell _ _ _ _ hb]
        have e2 := e1.offN (R := w.heap.size + 1 + 1 + 1) (w' := ((((w6.setCell ⟨w.heap.size + 1 + 1, 0, none⟩ (.slice rA q.1.rows.length rc)).setCell ⟨w.heap.size + 1 + 1, 1, none⟩ (.slice (some ⟨S, 0, none⟩) q.1.ss.length q.1.ss.length)).setCell ⟨w.heap.size + 1 + 1 + 1, 0, none⟩ (.int .i64 q.2.kind)).setCell ⟨w.heap.size + 1 + 1 + 1, 1, none⟩ (.string q.2.text)).setCell ⟨w.heap.size + 1 + 1 + 1, 2, none⟩ (.int .i64 q.1.ss[i].st)) (by omega) (fun e => hRS3 e.symm) (noTwo_answer A7) (by simp [World.setCell]) (hk2 _ _ _)
        have bf := (((((HB5.out.trans (kb.mono (by omega))).setCell (p := ⟨w.heap.size + 1 + 1, 0, none⟩) (by show w.heap.size ≤ w.heap.size + 1 + 1; omega) (.slice rA q.1.rows.length rc)).setCell (p := ⟨w.heap.size + 1 + 1, 1, none⟩) (by show w.heap.size ≤ w.heap.size + 1 + 1; omega) (.slice (some ⟨S, 0, none⟩) q.1.ss.length q.1.ss.length)).setCell (p := ⟨w.heap.size + 1 + 1 + 1, 0, none⟩) (by show w.heap.size ≤ w.heap.size + 1 + 1 + 1; omega) (.int .i64 q.2.kind)).setCell (p := ⟨w.heap.size + 1 + 1 + 1, 1, none⟩) (by show w.heap.size ≤ w.heap.size + 1 + 1 + 1; omega) (.string q.2.text)).setCell (p := ⟨w.heap.size + 1 + 1 + 1, 2, none⟩) (by show w.heap.size ≤ w.heap.size + 1 + 1 + 1; omega) (.int .i64 q.1.ss[i].st)
        rw [HDM.out]
        refine ⟨.slice rA q.1.rows.length rc, .slice (some ⟨S, 0, none⟩) q.1.ss.length q.1.ss.length, (by rw [getD_at hqi]), ?_, bf⟩
        have := e2.box.2.1
        exact this
    · have c2 : (q.1.ss[i].st == 1) = false := beq_eq_false_iff_ne.2 fun h1 => hcase ⟨beq_iff_eq.1 c1, h1⟩
      clear hcase
      go_wp2
      have hE5 := HP.out.below ((Below.refl _ _).alloc (Nat.le_refl _) (.cells #[.int .i64 q.2.kind, .string q.2.text, .int .i64 0] 30))
      have hR5 := HR.out.alloc (.cells #[.int .i64 q.2.kind, .string q.2.text, .int .i64 0] 30)
      have hA5' := HA.out.alloc (.cells #[.int .i64 q.2.kind, .string q.2.text, .int .i64 0] 30)
      have hB5 := HB.out.alloc (by omega) (.cells #[.int .i64 q.2.kind, .string q.2.text, .int .i64 0] 30)
      have hz5 : (w4.alloc (.cells #[.int .i64 q.2.kind, .string q.2.text, .int .i64 0] 30)).heap.size = w4.heap.size + 1 := by simp
      have hNew := RowTo.whole w4 #[.int .i64 q.2.kind, .string q.2.text, .int .i64 0] 30
      obtain ⟨u1, u2, u3, u5, hs5⟩ := hE5.sess hqi
      have s0 := hs5.c0
      have zn : ∀ j u, w4.cell? ⟨w.heap.size, j, none⟩ = some u → (w4.alloc (.cells #[.int .i64 q.2.kind, .string q.2.text, .int .i64 0] 30)).cell? ⟨w.heap.size, j, none⟩ = some u := fun j u h => by rw [World.cell?_alloc_lt _ _ _ hXw]; exact h
      have z0 := zn 0 _ z0
      have z1 := zn 1 _ z1
      have a0 := hNew.cell (j := 0) (by simp)
      have a1 := hNew.cell (j := 1) (by simp)
      simp only [List.getElem_cons_zero, List.getElem_cons_succ] at a0 a1
      have hX5 : w.heap.size < (w4.alloc (.cells #[.int .i64 q.2.kind, .string q.2.text, .int .i64 0] 30)).heap.size := by rw [hz5]; omega
      have hA5 : w4.heap.size < (w4.alloc (.cells #[.int .i64 q.2.kind, .string q.2.text, .int .i64 0] 30)).heap.size := by rw [hz5]; omega
      have hS5 : S < (w4.alloc (.cells #[.int .i64 q.2.kind, .string q.2.text, .int .i64 0] 30)).heap.size := by rw [hz5]; omega
      have HDM := Lib.hid (show doM W i k key val = q by rw [doM, ← HQ.out]; simp only [getD_at hqi]; rw [if_neg HC.out])
      have hXR : w.heap.size ≠ w.heap.size + 1 + 1 := by omega
      have hAR : w4.heap.size ≠ w.heap.size + 1 + 1 := by omega
      have hSR : S ≠ w.heap.size + 1 + 1 := fun e => hRS e.symm
      have hXA : w.heap.size ≠ w.heap.size + 1 + 1 + 1 := by omega
      have hAA : w4.heap.size ≠ w.heap.size + 1 + 1 + 1 := by omega
      have hSA : S ≠ w.heap.size + 1 + 1 + 1 := fun e => hRS3 e.symm
      have HR5 := Lib.hid hR5
      have HA5 := Lib.hid hA5'
      have HE5 := Lib.hid hE5
      have HB5 := Lib.hid hB5
      have hRw5 := hR5.lt
      have hAw5 := hA5'.lt
      clear hR5 hA5' hE5 hB5 zn hz5 hNew hs5
      generalize w4.alloc (.cells #[.int .i64 q.2.kind, .string q.2.text, .int .i64 0] 30) = W5 at *
      have kb := Below.refl W5.heap.size W5
      have HS := Lib.hid (show W5.drew.cell? ⟨w.heap.size, 0, none⟩ = some (.slice rA q.1.rows.length rc) ∧ W5.drew.cell? ⟨w.heap.size, 1, none⟩ = some (.slice (some ⟨S, 0, none⟩) q.1.ss.length q.1.ss.length) ∧ W5.drew.cell? ⟨w4.heap.size, 0, none⟩ = some (.int .i64 q.2.kind) ∧ W5.drew.cell? ⟨w4.heap.size, 1, none⟩ = some (.string q.2.text) ∧ W5.drew.cell? ⟨S, i * 5, none⟩ = some (.int .i64 q.1.ss[i].st) from ⟨z0, z1, a0, a1, s0⟩)
      go_region_held3 (fun wx => wx.cell? ⟨w.heap.size, 0, none⟩ = some (.slice rA q.1.rows.length rc) ∧ wx.cell? ⟨w.heap.size, 1, none⟩ = some (.slice (some ⟨S, 0, none⟩) q.1.ss.length q.1.ss.length) ∧ wx.cell? ⟨w4.heap.size, 0, none⟩ = some (.int .i64 q.2.kind) ∧ wx.cell? ⟨w4.heap.size, 1, none⟩ = some (.string q.2.text) ∧ wx.cell? ⟨S, i * 5, none⟩ = some (.int .i64 q.1.ss[i].st))
        (first
          | with_reducible exact ⟨z0, z1, a0, a1, s0⟩
          | with_reducible exact HS.out
          | with_reducible exact ⟨(kb.cell (p := ⟨w.heap.size, 0, none⟩) hX5).trans z0, (kb.cell (p := ⟨w.heap.size, 1, none⟩) hX5).trans z1, (kb.cell (p := ⟨w4.heap.size, 0, none⟩) hA5).trans a0, (kb.cell (p := ⟨w4.heap.size, 1, none⟩) hA5).trans a1, (kb.cell (p := ⟨S, i * 5, none⟩) hS5).trans s0⟩
          | with_reducible exact ⟨cell_set3 (cell_set2 ((kb.cell (p := ⟨w.heap.size, 0, none⟩) hX5).trans z0) hXR) hXA, cell_set3 (cell_set2 ((kb.cell (p := ⟨w.heap.size, 1, none⟩) hX5).trans z1) hXR) hXA, cell_set3 (cell_set2 ((kb.cell (p := ⟨w4.heap.size, 0, none⟩) hA5).trans a0) hAR) hAA, cell_set3 (cell_set2 ((kb.cell (p := ⟨w4.heap.size, 1, none⟩) hA5).trans a1) hAR) hAA, cell_set3 (cell_set2 ((kb.cell (p := ⟨S, i * 5, none⟩) hS5).trans s0) hSR) hSA⟩
          | with_reducible exact ⟨cell_set2 ((kb.cell (p := ⟨w.heap.size, 0, none⟩) hX5).trans z0) hXR, cell_set2 ((kb.cell (p := ⟨w.heap.size, 1, none⟩) hX5).trans z1) hXR, cell_set2 ((kb.cell (p := ⟨w4.heap.size, 0, none⟩) hA5).trans a0) hAR, cell_set2 ((kb.cell (p := ⟨w4.heap.size, 1, none⟩) hA5).trans a1) hAR, cell_set2 ((kb.cell (p := ⟨S, i * 5, none⟩) hS5).trans s0) hSR⟩)
        (first
          | (
            go_at_call 25
            refine (clone_any q.2.text _ (by omega)).mono ?_
            rintro e w6 ⟨rfl, hy⟩
            have kb : Below W5.heap.size W5 w6 := by first | exact hy | exact bel_addN kb hy kb.size | exact bel_add kb hy kb.size
            have R6 := HR5.out.below kb hRw5
            have A6 := HA5.out.below kb hAw5
            have r0 := R6.cell (j := 0) (by simp)
            have r1 := R6.cell (j := 1) (by simp)
            have b0 := A6.cell (j := 0) (by simp)
            have b1 := A6.cell (j := 1) (by simp)
            have b2 := A6.cell (j := 2) (by simp)
            have g0 := R6.frozen 0
            have g1 := R6.frozen 1
            have k0 := A6.frozen 0
            have k1 := A6.frozen 1
            have k2 := A6.frozen 2
            simp only [List.getElem_cons_zero, List.getElem_cons_succ] at r0 r1 b0 b1 b2))
      all_goals go_wp2
      all_goals refine bodyPost_ret (v := doGood (.slice rA q.1.rows.length rc) (.slice (some ⟨S, 0, none⟩) q.1.ss.length q.1.ss.length) q.2 q.1.ss[i].st) (by simp [results, Tryd.results10, go_sem, r0, r1, b0, b1, b2, doGood]) rfl ?_
      all_goals
        have hk1 : ∀ b, b ≠ w.heap.size + 1 + 1 → ((w6.setCell ⟨w.heap.size + 1 + 1, 0, none⟩ (.slice rA q.1.rows.length rc)).setCell ⟨w.heap.size + 1 + 1, 1, none⟩ (.slice (some ⟨S, 0, none⟩) q.1.ss.length q.1.ss.length)).heap[b]? = w6.heap[b]? := fun b hb => by rw [Below.heap_setCell _ _ _ _ hb, Below.heap_setCell _ _ _ _ hb]
        have e1 := (HE5.out.below kb).offN (R := w.heap.size + 1 + 1) (by omega) hSR (noTwo_world R6) (by simp [World.setCell]) hk1
        have A7 := (A6.other (p := ⟨w.heap.size + 1 + 1, 0, none⟩) (by show w.heap.size + 1 + 1 ≠ _; omega) (.slice rA q.1.rows.length rc)).other (p := ⟨w.heap.size + 1 + 1, 1, none⟩) (by show w.heap.size + 1 + 1 ≠ _; omega) (.slice (some ⟨S, 0, none⟩) q.1.ss.length q.1.ss.length)
        have hk2 : ∀ (x y z : Value) b, b ≠ w.heap.size + 1 + 1 + 1 → (((((w6.setCell ⟨w.heap.size + 1 + 1, 0, none⟩ (.slice rA q.1.rows.length rc)).setCell ⟨w.heap.size + 1 + 1, 1, none⟩ (.slice (some ⟨S, 0, none⟩) q.1.ss.length q.1.ss.length)).setCell ⟨w.heap.size + 1 + 1 + 1, 0, none⟩ x).setCell ⟨w.heap.size + 1 + 1 + 1, 1, none⟩ y).setCell ⟨w.heap.size + 1 + 1 + 1, 2, none⟩ z).heap[b]? = ((w6.setCell ⟨w.heap.size + 1 + 1, 0, none⟩ (.slice rA q.1.rows.length rc)).setCell ⟨w.heap.size + 1 + 1, 1, none⟩ (.slice (some ⟨S, 0, none⟩) q.1.ss.length q.1.ss.length)).heap[b]? := fun x y z b hb => by rw [Below.heap_setCell _ _ _ _ hb, Below.heap_setCell _ _ _ _ hb, Below.heap_setCell _ _ _ _ hb]
        have e2 := e1.offN (R := w.heap.size + 1 + 1 + 1) (w' := ((((w6.setCell ⟨w.heap.size + 1 + 1, 0, none⟩ (.slice rA q.1.rows.length rc)).setCell ⟨w.heap.size + 1 + 1, 1, none⟩ (.slice (some ⟨S, 0, none⟩) q.1.ss.length q.1.ss.length)).setCell ⟨w.heap.size + 1 + 1 + 1, 0, none⟩ (.int .i64 q.2.kind)).setCell ⟨w.heap.size + 1 + 1 + 1, 1, none⟩ (.string q.2.text)).setCell ⟨w.heap.size + 1 + 1 + 1, 2, none⟩ (.int .i64 q.1.ss[i].st)) (by omega) (fun e => hRS3 e.symm) (noTwo_answer A7) (by simp [World.setCell]) (hk2 _ _ _)
        have bf := (((((HB5.out.trans (kb.mono (by omega))).setCell (p := ⟨w.heap.size + 1 + 1, 0, none⟩) (by show w.heap.size ≤ w.heap.size + 1 + 1; omega) (.slice rA q.1.rows.length rc)).setCell (p := ⟨w.heap.size + 1 + 1, 1, none⟩) (by show w.heap.size ≤ w.heap.size + 1 + 1; omega) (.slice (some ⟨S, 0, none⟩) q.1.ss.length q.1.ss.length)).setCell (p := ⟨w.heap.size + 1 + 1 + 1, 0, none⟩) (by show w.heap.size ≤ w.heap.size + 1 + 1 + 1; omega) (.int .i64 q.2.kind)).setCell (p := ⟨w.heap.size + 1 + 1 + 1, 1, none⟩) (by show w.heap.size ≤ w.heap.size + 1 + 1 + 1; omega) (.string q.2.text)).setCell (p := ⟨w.heap.size + 1 + 1 + 1, 2, none⟩) (by show w.heap.size ≤ w.heap.size + 1 + 1 + 1; omega) (.int .i64 q.1.ss[i].st)
        rw [HDM.out]
        refine ⟨.slice rA q.1.rows.length rc, .slice (some ⟨S, 0, none⟩) q.1.ss.length q.1.ss.length, (by rw [getD_at hqi]), ?_, bf⟩
        have := e2.box.2.1
        exact this

/-- Do, at once -/
theorem do_any (r s : Value) (W : Wd) (i : Nat) (k : Int) (key val : ByteArray) (w : World) (hW : Wld w w.heap.size r s W) (hWo : Words w) (hok : WorldOk W) (hi : i < W.ss.length) (hc : checkE k key val = 0) :
    Calls Tryd.prog 10 #[.agg #[r, s], .int .i64 i, .agg #[.int .i64 k, .string key, .string val]] w fun e w' => ∃ r' s', e = .returned (doGood r' s' (doM W i k key val).2 ((doM W i k key val).1.at i).st) ∧ Wld w' w'.heap.size r' s' (doM W i k key val).1 ∧ Below w.heap.size w w' := by
  have g := good_of hc
  exact do_ok r s W i k key val w hW hWo (by have := g.key8; unfold maxLen; omega) (by have := g.v60; unfold maxLen; omega) (by
    unfold doE
    rw [if_neg (by rw [worldB_iff.2 hok]; simp), if_neg (by omega)]; exact hc)
end Go.Proofs.YtpbaobmegomfpabDoor

/-
  Lists that lie in blocks of which something holds.
-/
namespace Go.Proofs.YtpbaobmegomfpabDoor
open Go.RowKit
set_option linter.unusedVariables false

/-- a list that is not empty lies in a block of which P holds -/
def InP (P : Nat → Prop) (v : Value) (l : PL) : Prop := 0 < l.length → ∀ b off n c, v = .slice (some ⟨b, off, none⟩) n c → P b
theorem Lst.keepP {w w' : World} {B B' : Nat} {v : Value} {l : PL} {P : Nat → Prop} (h : Lst w B v l) (hp : InP P v l) (hk : ∀ b, P b → w'.heap[b]? = w.heap[b]?) (hB : ∀ b, P b → b < B') : Lst w' B' v l := by
  refine ⟨h.form, h.bytes, h.sizes, fun hn => ?_, h.nil⟩
  obtain ⟨b, off, c, e, hb, hc⟩ := h.cells hn
  have hP := hp hn b off _ c e
  exact ⟨b, off, c, e, hB b hP, fun i hi => ⟨(World.cell?_of_block (hk b hP)).trans (hc i hi).1, (World.cell?_of_block (hk b hP)).trans (hc i hi).2⟩⟩
theorem InP.mono {P Q : Nat → Prop} {v : Value} {l : PL} (h : InP P v l) (hpq : ∀ b, P b → Q b) : InP Q v l := fun hn b off n c e => hpq b (h hn b off n c e)
theorem Lst.inP {w : World} {B : Nat} {v : Value} {l : PL} (h : Lst w B v l) : InP (· < B) v l := fun hn b off n c e => by
  obtain ⟨b', off', c', e', hb, _⟩ := h.cells hn
  rw [e'] at e
  injection e with e
  injection e with e
  injection e with e
  rw [← e]; exact hb
theorem InP.and {P Q : Nat → Prop} {v : Value} {l : PL} (h : InP P v l) (h2 : InP Q v l) : InP (fun b => P b ∧ Q b) v l := fun hn b off n c e => ⟨h hn b off n c e, h2 hn b off n c e⟩
theorem InP.nil_ (P : Nat → Prop) (v : Value) : InP P v [] := fun h => absurd h (by simp)
/-- a list that a call made lies in a new block -/
theorem own_inP {w : World} {base t : Nat} {v : Value} {l : PL} (h : w.ownsRow base t 2 v l.length (flat l)) : InP (fun b => base ≤ b ∧ b < w.heap.size) v l := fun hn b off n c e => by
  obtain ⟨hl, h1 | ⟨g, cap, cur, hv, hg, hh, _⟩⟩ := h
  · rw [h1.1] at e; injection e with e; cases e
  · rw [hv] at e
    injection e with e
    injection e with e
    injection e with e
    rw [← e]
    exact ⟨hg, (Array.getElem?_eq_some_iff.1 hh).1⟩
theorem own_lt {w : World} {B : Nat} {v : Value} {l : PL} {P : Nat → Prop} (h : Lst w B v l) (hp : InP P v l) : InP (fun b => P b ∧ b < B) v l := hp.and h.inP

end Go.Proofs.YtpbaobmegomfpabDoor

/-
  A world as a value does not lie in a variable's own block; slices of statements in memory.
-/
namespace Go.Proofs.YtpbaobmegomfpabDoor
open Go.RowKit
set_option linter.unusedVariables false

/-- no session lies in block R -/
def NoSes (w : World) (R : Nat) : Prop := ∀ o st A n c, w.cell? ⟨R, o, none⟩ = some (.int .i64 st) → w.cell? ⟨R, o + 1, none⟩ ≠ some (.slice A n c)
theorem noSes_answer {w : World} {R : Nat} {x y : Int} {s : ByteArray} (h : RowTo w R 30 3 [.int .i64 x, .string s, .int .i64 y]) : NoSes w R := by
  intro o st A n c h1 h2
  have r1 := h.cell (j := 1) (by simp)
  have r2 := h.cell (j := 2) (by simp)
  simp only [List.getElem_cons_zero, List.getElem_cons_succ] at r1 r2
  rcases Nat.lt_or_ge (o + 1) 3 with hj | hj
  · obtain rfl | rfl : o = 0 ∨ o = 1 := by omega
    · rw [r1] at h2; cases h2
    · rw [r2] at h2; cases h2
  · rw [h.out_ hj] at h2; cases h2
theorem noSes_world {w : World} {R t : Nat} {a b : Option Addr} {n m c d : Nat} (h : RowTo w R t 2 [.slice a n c, .slice b m d]) : NoSes w R := by
  intro o st A n' c' h1 h2
  have r0 := h.cell (j := 0) (by simp)
  have r1 := h.cell (j := 1) (by simp)
  simp only [List.getElem_cons_zero, List.getElem_cons_succ] at r0 r1
  rcases Nat.lt_or_ge o 2 with hj | hj
  · obtain rfl | rfl : o = 0 ∨ o = 1 := by omega
    · rw [r0] at h1; cases h1
    · rw [r1] at h1; cases h1
  · rw [h.out_ hj] at h1; cases h1
theorem Sss.off {w w' : World} {B R : Nat} {v : Value} {ss : List Sess} (h : Sss w B v ss) (h2 : NoTwo w R) (hs : NoSes w R) (hk : ∀ b, b ≠ R → w'.heap[b]? = w.heap[b]?) : Sss w' B v ss := by
  refine ⟨h.form, h.bytes, fun hn => ?_⟩
  obtain ⟨b, off, c, e, hb, hc⟩ := h.cells hn
  have hne : b ≠ R := by
    rintro rfl
    obtain ⟨v1, v2, v3, v4, q⟩ := hc 0 hn
    obtain ⟨A, c', hv, _⟩ := q.l1.form
    have := q.c1
    rw [hv] at this
    exact hs _ _ _ _ _ q.c0 this
  refine ⟨b, off, c, e, hb, fun i hi => ?_⟩
  obtain ⟨v1, v2, v3, v4, q⟩ := hc i hi
  have cs : ∀ j, w'.cell? ⟨b, j, none⟩ = w.cell? ⟨b, j, none⟩ := fun j => World.cell?_of_block (hk b hne)
  exact ⟨v1, v2, v3, v4, (cs _).trans q.c0, (cs _).trans q.c1, (cs _).trans q.c2, (cs _).trans q.c3, (cs _).trans q.c4, q.l1.offN h2 hk, q.l2.offN h2 hk, q.l3.offN h2 hk, q.l4.offN h2 hk⟩
theorem Wld.off {w w' : World} {B R : Nat} {r s : Value} {W : Wd} (h : Wld w B r s W) (h2 : NoTwo w R) (hs : NoSes w R) (hk : ∀ b, b ≠ R → w'.heap[b]? = w.heap[b]?) : Wld w' B r s W := ⟨h.rows.offN h2 hk, h.sess.off h2 hs hk⟩
/-- a world's variable is written to -/
theorem Wld.set2 {w : World} {R t : Nat} {a b : Option Addr} {n m c d : Nat} {r s : Value} {W : Wd} (h : Wld w w.heap.size r s W) (hR : RowTo w R t 2 [.slice a n c, .slice b m d]) (x y : Value) : Wld ((w.setCell ⟨R, 0, none⟩ x).setCell ⟨R, 1, none⟩ y) ((w.setCell ⟨R, 0, none⟩ x).setCell ⟨R, 1, none⟩ y).heap.size r s W := by
  have : ((w.setCell ⟨R, 0, none⟩ x).setCell ⟨R, 1, none⟩ y).heap.size = w.heap.size := by simp [World.setCell]
  rw [this]
  exact h.off (noTwo_world hR) (noSes_world hR) fun b hb => by rw [Below.heap_setCell _ _ _ _ hb, Below.heap_setCell _ _ _ _ hb]
theorem Wld.set3 {w : World} {R : Nat} {x y : Int} {z : ByteArray} {r s : Value} {W : Wd} (h : Wld w w.heap.size r s W) (hR : RowTo w R 30 3 [.int .i64 x, .string z, .int .i64 y]) (a b c : Value) : Wld (((w.setCell ⟨R, 0, none⟩ a).setCell ⟨R, 1, none⟩ b).setCell ⟨R, 2, none⟩ c) (((w.setCell ⟨R, 0, none⟩ a).setCell ⟨R, 1, none⟩ b).setCell ⟨R, 2, none⟩ c).heap.size r s W := by
  have : (((w.setCell ⟨R, 0, none⟩ a).setCell ⟨R, 1, none⟩ b).setCell ⟨R, 2, none⟩ c).heap.size = w.heap.size := by simp [World.setCell]
  rw [this]
  exact h.off (noTwo_answer hR) (noSes_answer hR) fun b hb => by rw [Below.heap_setCell _ _ _ _ hb, Below.heap_setCell _ _ _ _ hb, Below.heap_setCell _ _ _ _ hb]
theorem RowTo.set2 {w : World} {R t : Nat} {a b : Value} (h : RowTo w R t 2 [a, b]) (x y : Value) : RowTo ((w.setCell ⟨R, 0, none⟩ x).setCell ⟨R, 1, none⟩ y) R t 2 [x, y] := (h.put (j := 0) (by simp) x).put (j := 1) (by simp) y
theorem RowTo.set3 {w : World} {R t : Nat} {a b c : Value} (h : RowTo w R t 3 [a, b, c]) (x y z : Value) : RowTo (((w.setCell ⟨R, 0, none⟩ x).setCell ⟨R, 1, none⟩ y).setCell ⟨R, 2, none⟩ z) R t 3 [x, y, z] := ((h.put (j := 0) (by simp) x).put (j := 1) (by simp) y).put (j := 2) (by simp) z
theorem RowTo.oth2 {w : World} {R g t n : Nat} {xs : List Value} (h : RowTo w g t n xs) (hne : R ≠ g) (x y : Value) : RowTo ((w.setCell ⟨R, 0, none⟩ x).setCell ⟨R, 1, none⟩ y) g t n xs := (h.other (p := ⟨R, 0, none⟩) hne x).other (p := ⟨R, 1, none⟩) hne y
theorem RowTo.oth3 {w : World} {R g t n : Nat} {xs : List Value} (h : RowTo w g t n xs) (hne : R ≠ g) (x y z : Value) : RowTo (((w.setCell ⟨R, 0, none⟩ x).setCell ⟨R, 1, none⟩ y).setCell ⟨R, 2, none⟩ z) g t n xs := ((h.other (p := ⟨R, 0, none⟩) hne x).other (p := ⟨R, 1, none⟩) hne y).other (p := ⟨R, 2, none⟩) hne z
theorem bel_set2 {B R : Nat} {a w : World} (h : Below B a w) (hR : B ≤ R) (x y : Value) : Below B a ((w.setCell ⟨R, 0, none⟩ x).setCell ⟨R, 1, none⟩ y) := (h.setCell (p := ⟨R, 0, none⟩) hR x).setCell (p := ⟨R, 1, none⟩) hR y
theorem bel_set3 {B R : Nat} {a w : World} (h : Below B a w) (hR : B ≤ R) (x y z : Value) : Below B a (((w.setCell ⟨R, 0, none⟩ x).setCell ⟨R, 1, none⟩ y).setCell ⟨R, 2, none⟩ z) := ((h.setCell (p := ⟨R, 0, none⟩) hR x).setCell (p := ⟨R, 1, none⟩) hR y).setCell (p := ⟨R, 2, none⟩) hR z
theorem cells2 {w : World} {g t n : Nat} {a b : Value} (h : RowTo w g t n [a, b]) : w.cell? ⟨g, 0, none⟩ = some a ∧ w.cell? ⟨g, 1, none⟩ = some b := ⟨h.cell (j := 0) (by simp), h.cell (j := 1) (by simp)⟩
theorem cells3 {w : World} {g t n : Nat} {a b c : Value} (h : RowTo w g t n [a, b, c]) : w.cell? ⟨g, 0, none⟩ = some a ∧ w.cell? ⟨g, 1, none⟩ = some b ∧ w.cell? ⟨g, 2, none⟩ = some c := ⟨h.cell (j := 0) (by simp), h.cell (j := 1) (by simp), h.cell (j := 2) (by simp)⟩

/-- a statement, as a triple -/
abbrev St3 := Int × ByteArray × ByteArray
/-- the slice value v reads as the statements l, in blocks below B -/
structure SLst (w : World) (B : Nat) (v : Value) (l : List St3) : Prop where
  form : ∃ A c, v = .slice A l.length c ∧ l.length ≤ c
  small : l.length ≤ 1000000
  cells : 0 < l.length → ∃ b off c, v = .slice (some ⟨b, off, none⟩) l.length c ∧ b < B ∧
    ∀ i (h : i < l.length), w.cell? ⟨b, off + i * 3, none⟩ = some (.int .i64 l[i].1) ∧ w.cell? ⟨b, off + i * 3 + 1, none⟩ = some (.string l[i].2.1) ∧ w.cell? ⟨b, off + i * 3 + 2, none⟩ = some (.string l[i].2.2)
theorem SLst.keep {w w' : World} {B B' : Nat} {v : Value} {l : List St3} (h : SLst w B v l) (hB : B ≤ B') (hk : ∀ p : Addr, p.block < B → w'.cell? p = w.cell? p) : SLst w' B' v l := by
  refine ⟨h.form, h.small, fun hn => ?_⟩
  obtain ⟨b, off, c, e, hb, hc⟩ := h.cells hn
  exact ⟨b, off, c, e, by omega, fun i hi => ⟨(hk _ hb).trans (hc i hi).1, (hk _ hb).trans (hc i hi).2.1, (hk _ hb).trans (hc i hi).2.2⟩⟩
theorem SLst.step {w w' : World} {v : Value} {l : List St3} (h : SLst w w.heap.size v l) (hb : Below w.heap.size w w') : SLst w' w'.heap.size v l := h.keep hb.size fun _ hp => hb.cell hp
theorem SLst.pt {w : World} {B n c : Nat} {A : Option Addr} {l : List St3} (h : SLst w B (.slice A n c) l) {k : Nat} (hk : k < l.length) :
    ∃ b off, A = some ⟨b, off, none⟩ ∧ b < B ∧ w.cell? ⟨b, off + k * 3, none⟩ = some (.int .i64 l[k].1) ∧ w.cell? ⟨b, off + k * 3 + 1, none⟩ = some (.string l[k].2.1) ∧ w.cell? ⟨b, off + k * 3 + 2, none⟩ = some (.string l[k].2.2) := by
  obtain ⟨b, off, c', e, hb, hc⟩ := h.cells (by omega)
  injection e with e1 e2 e3
  obtain ⟨h1, h2, h3⟩ := hc k hk
  exact ⟨b, off, e1, hb, h1, h2, h3⟩
end Go.Proofs.YtpbaobmegomfpabDoor

/-
  A world as a value whose blocks all have a property: the words.
-/
namespace Go.Proofs.YtpbaobmegomfpabDoor
open Go.RowKit
set_option linter.unusedVariables false

structure WldP (w : World) (P : Nat → Prop) (r s : Value) (W : Wd) : Prop where
  wld : Wld w w.heap.size r s W
  rows : InP P r W.rows
  ses : 0 < W.ss.length → ∀ b off n c, s = .slice (some ⟨b, off, none⟩) n c → P b ∧ ∀ k j v (hk : k < W.ss.length), j < 4 → w.cell? ⟨b, off + k * 5 + (j + 1), none⟩ = some v → InP P v (W.ss[k].li j)
theorem WldP.mono {w : World} {P Q : Nat → Prop} {r s : Value} {W : Wd} (h : WldP w P r s W) (hpq : ∀ b, P b → Q b) : WldP w Q r s W :=
  ⟨h.wld, h.rows.mono hpq, fun hn b off n c e => ⟨hpq b (h.ses hn b off n c e).1, fun k j v hk hj hv => ((h.ses hn b off n c e).2 k j v hk hj hv).mono hpq⟩⟩
/-- its sessions, where they lie -/
theorem WldP.at {w : World} {P : Nat → Prop} {r s : Value} {W : Wd} (h : WldP w P r s W) (hn : 0 < W.ss.length) : ∃ b off c, s = .slice (some ⟨b, off, none⟩) W.ss.length c ∧ P b ∧ b < w.heap.size ∧
    ∀ i (hi : i < W.ss.length), ∃ v1 v2 v3 v4, Ses w w.heap.size b (off + i * 5) W.ss[i] v1 v2 v3 v4 ∧ InP P v1 W.ss[i].set ∧ InP P v2 W.ss[i].prep ∧ InP P v3 W.ss[i].sav ∧ InP P v4 W.ss[i].wr := by
  obtain ⟨b, off, c, e, hb, hc⟩ := h.wld.sess.cells hn
  obtain ⟨hp, hl⟩ := h.ses hn b off _ c e
  refine ⟨b, off, c, e, hp, hb, fun i hi => ?_⟩
  obtain ⟨v1, v2, v3, v4, q⟩ := hc i hi
  exact ⟨v1, v2, v3, v4, q, hl i 0 _ hi (by omega) q.c1, hl i 1 _ hi (by omega) q.c2, hl i 2 _ hi (by omega) q.c3, hl i 3 _ hi (by omega) q.c4⟩
theorem WldP.mk' {w : World} {P : Nat → Prop} {r s : Value} {W : Wd} (hr : Lst w w.heap.size r W.rows) (hp : InP P r W.rows) (hf : ∃ A c, s = .slice A W.ss.length c ∧ W.ss.length ≤ c) (hby : W.ss.length * 104 ≤ 140737488351232)
    (hs : 0 < W.ss.length → ∃ b off c, s = .slice (some ⟨b, off, none⟩) W.ss.length c ∧ P b ∧ b < w.heap.size ∧
      ∀ i (hi : i < W.ss.length), ∃ v1 v2 v3 v4, Ses w w.heap.size b (off + i * 5) W.ss[i] v1 v2 v3 v4 ∧ InP P v1 W.ss[i].set ∧ InP P v2 W.ss[i].prep ∧ InP P v3 W.ss[i].sav ∧ InP P v4 W.ss[i].wr) : WldP w P r s W := by
  refine ⟨⟨hr, hf, hby, fun hn => ?_⟩, hp, fun hn b off n c e => ?_⟩
  · obtain ⟨b, off, c, e, _, hb, hc⟩ := hs hn
    exact ⟨b, off, c, e, hb, fun i hi => by obtain ⟨v1, v2, v3, v4, q, _⟩ := hc i hi; exact ⟨v1, v2, v3, v4, q⟩⟩
  · obtain ⟨b', off', c', e', hP, hb, hc⟩ := hs hn
    have he : b = b' ∧ off = off' := by rw [e] at e'; injection e' with e'; injection e' with e'; injection e' with e1 e2; exact ⟨e1, e2⟩
    obtain ⟨rfl, rfl⟩ := he
    refine ⟨hP, fun k j v hk hj hv => ?_⟩
    obtain ⟨v1, v2, v3, v4, q, p1, p2, p3, p4⟩ := hc k hk
    rcases j4 hj with rfl | rfl | rfl | rfl
    · rw [q.c1] at hv; injection hv with hv; subst hv; exact p1
    · rw [q.c2] at hv; injection hv with hv; subst hv; exact p2
    · rw [q.c3] at hv; injection hv with hv; subst hv; exact p3
    · rw [q.c4] at hv; injection hv with hv; subst hv; exact p4
/-- the blocks of which P holds are as they were -/
theorem WldP.keep {w w' : World} {P : Nat → Prop} {r s : Value} {W : Wd} (h : WldP w P r s W) (hs : w.heap.size ≤ w'.heap.size) (hk : ∀ b, P b → b < w.heap.size → w'.heap[b]? = w.heap[b]?) : WldP w' P r s W := by
  have ll : ∀ {v : Value} {l : PL}, Lst w w.heap.size v l → InP P v l → Lst w' w'.heap.size v l := fun a b => a.keepP (own_lt a b) (fun x hx => hk x hx.1 hx.2) (fun x hx => Nat.lt_of_lt_of_le hx.2 hs)
  refine WldP.mk' (ll h.wld.rows h.rows) h.rows h.wld.sess.form h.wld.sess.bytes fun hn => ?_
  obtain ⟨b, off, c, e, hP, hb, hc⟩ := h.at hn
  have cs : ∀ j, w'.cell? ⟨b, j, none⟩ = w.cell? ⟨b, j, none⟩ := fun j => World.cell?_of_block (hk b hP hb)
  refine ⟨b, off, c, e, hP, Nat.lt_of_lt_of_le hb hs, fun i hi => ?_⟩
  obtain ⟨v1, v2, v3, v4, q, p1, p2, p3, p4⟩ := hc i hi
  exact ⟨v1, v2, v3, v4, ⟨(cs _).trans q.c0, (cs _).trans q.c1, (cs _).trans q.c2, (cs _).trans q.c3, (cs _).trans q.c4, ll q.l1 p1, ll q.l2 p2, ll q.l3 p3, ll q.l4 p4⟩, p1, p2, p3, p4⟩
theorem WldP.below {w w' : World} {P : Nat → Prop} {r s : Value} {W : Wd} (h : WldP w P r s W) (hb : Below w.heap.size w w') : WldP w' P r s W := h.keep hb.size fun b _ hlt => hb.block b hlt
/-- its blocks are there -/
theorem WldP.small {w : World} {P : Nat → Prop} {r s : Value} {W : Wd} (h : WldP w P r s W) : WldP w (fun b => P b ∧ b < w.heap.size) r s W := by
  refine WldP.mk' h.wld.rows (own_lt h.wld.rows h.rows) h.wld.sess.form h.wld.sess.bytes fun hn => ?_
  obtain ⟨b, off, c, e, hP, hb, hc⟩ := h.at hn
  refine ⟨b, off, c, e, ⟨hP, hb⟩, hb, fun i hi => ?_⟩
  obtain ⟨v1, v2, v3, v4, q, p1, p2, p3, p4⟩ := hc i hi
  exact ⟨v1, v2, v3, v4, q, own_lt q.l1 p1, own_lt q.l2 p2, own_lt q.l3 p3, own_lt q.l4 p4⟩
theorem Wld.p {w : World} {r s : Value} {W : Wd} (h : Wld w w.heap.size r s W) : WldP w (fun b => b < w.heap.size) r s W := by
  refine WldP.mk' h.rows h.rows.inP h.sess.form h.sess.bytes fun hn => ?_
  obtain ⟨b, off, c, e, hb, hc⟩ := h.sess.cells hn
  refine ⟨b, off, c, e, hb, hb, fun i hi => ?_⟩
  obtain ⟨v1, v2, v3, v4, q⟩ := hc i hi
  exact ⟨v1, v2, v3, v4, q, q.l1.inP, q.l2.inP, q.l3.inP, q.l4.inP⟩
end Go.Proofs.YtpbaobmegomfpabDoor

