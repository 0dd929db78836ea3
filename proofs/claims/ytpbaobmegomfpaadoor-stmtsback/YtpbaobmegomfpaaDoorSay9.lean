/-
  Walks of the reference's StmtOf, where StmtFault is known for shorter texts; both, by induction.
-/
import Derived.Test.YtpbaobmegomfpaaDoorSay8
import Derived.Test.YtpbaobmegomfpaaDoorStm
namespace Go.Proofs.YtpbaobmegomfpaaDoor
open Go.RowKit
set_option linter.unusedVariables false
set_option maxRecDepth 100000

theorem of_long (t : ByteArray) (h : 60 < t.size) (w : World) :
    Calls Tryd.prog 16 #[.string t] w fun e w' => e = .returned (.tuple #[.agg #[.int .i64 0, .string ⟨#[]⟩, .string ⟨#[]⟩], .int .i64 1]) ∧ Below w.heap.size w w' := by
  have hd : decide (60 < (t.size : Int)) = true := decide_eq_true (by omega)
  go_enter Tryd.func16, Tryd.ntmps16
  go_wp2
  refine bodyPost_ret (v := .tuple #[.agg #[.int .i64 0, .string ⟨#[]⟩, .string ⟨#[]⟩], .int .i64 1]) (by simp [results, Tryd.results16, go_sem]) rfl ⟨rfl, ?_⟩
  repeat' (first | exact Below.refl _ _ | assumption | with_reducible refine below_drewN ?_ _ | with_reducible refine Below.drew ?_ | with_reducible refine Below.setCell ?_ ?_ _ | with_reducible refine Below.alloc ?_ ?_ _ | (simp; done) | (simp; omega))

/-- at the head of the loop over the words -/
structure LoopSt (w wr : World) (word : ByteArray) (k : Nat) : Prop where
  bel : Below w.heap.size w wr
  res : Stm wr w.heap.size 0 ⟨#[]⟩ ⟨#[]⟩
  st : Stm wr (w.heap.size + 1) (kindBefore k word) ⟨#[]⟩ ⟨#[]⟩

/-- what StmtOf returns -/
def ofV (t : ByteArray) : Value := if readE t = 0 then .tuple #[.agg #[.int .i64 (kindN (cutA t)), .string (cutA (cutB t)), .string (cutB (cutB t))], .int .i64 0] else .tuple #[.agg #[.int .i64 0, .string ⟨#[]⟩, .string ⟨#[]⟩], .int .i64 (readE t)]

theorem ofV_ok {t : ByteArray} (h : readE t = 0) : ofV t = .tuple #[.agg #[.int .i64 (kindN (cutA t)), .string (cutA (cutB t)), .string (cutB (cutB t))], .int .i64 0] := by unfold ofV; rw [if_pos h]
theorem ofV_no {t : ByteArray} (h : readE t ≠ 0) : ofV t = .tuple #[.agg #[.int .i64 0, .string ⟨#[]⟩, .string ⟨#[]⟩], .int .i64 (readE t)] := by unfold ofV; rw [if_neg h]

theorem ofV_form {t : ByteArray} (h : ¬ 60 < t.size) (hk : kindN (cutA t) ≠ 0) (hb : splitBad t = true) : ofV t = .tuple #[.agg #[.int .i64 0, .string ⟨#[]⟩, .string ⟨#[]⟩], .int .i64 4] := by
  have e : readE t = 4 := by rw [readE_split h (by rw [splitE_form hk hb]; decide), splitE_form hk hb]
  rw [ofV_no (by rw [e]; decide), e]

set_option maxHeartbeats 2000000 in
theorem of_main (t : ByteArray) (h : t.size ≤ 60) (hF : splitE t = 0 → FaultSaid (kindN (cutA t)) (cutA (cutB t)) (cutB (cutB t))) (w : World) :
    Calls Tryd.prog 16 #[.string t] w fun e w' => e = .returned (ofV t) ∧ Below w.heap.size w w' := by
  have hd : decide (60 < (t.size : Int)) = false := decide_eq_false (by omega)
  have hs2 : (cutB t).size ≤ maxLen := by rw [cutB_size]; unfold maxLen; omega
  have HF := Lib.hid hF
  clear hF
  go_enter Tryd.func16, Tryd.ntmps16
  go_wp2_with fail
  refine (upTo_any t _ (by unfold maxLen; omega)).mono ?_
  rintro e w1 ⟨rfl, n, rfl⟩
  go_wp2
  go_loopw [8] (fun c wr => ∃ k : Nat, 1 ≤ k ∧ k ≤ 12 ∧ c = .int .i64 k ∧ LoopSt w wr (cutA t) k) (fun c _ => 12 - (intOf c).toNat)
  case atStart =>
    refine ⟨1, by omega, by omega, rfl, ?_, ?_, ?_⟩
    · repeat' (first | exact Below.refl _ _ | assumption | with_reducible refine below_drewN ?_ _ | with_reducible refine Below.drew ?_ | with_reducible refine Below.setCell ?_ ?_ _ | with_reducible refine Below.alloc ?_ ?_ _ | (simp; done) | (simp; omega))
    · exact ((Stm.new w 0 _ _ _).below (below_drewN (Below.refl _ _) n)).below ((Below.refl _ _).alloc (Nat.le_refl _) _)
    · rw [kindBefore_one]
      have := Stm.new ((w.alloc (Obj.cells #[.int .i64 0, .string ⟨#[]⟩, .string ⟨#[]⟩] 23)).drewN n) 0 ⟨#[]⟩ ⟨#[]⟩ 23
      simpa using this
  case round =>
    obtain ⟨k, hk1, hk2, rfl, hS⟩ := hrel
    by_cases hlt : k ≤ 11
    · have HS := Lib.hid hS
      clear hS
      have hwl := Lib.hid (wordAt_toList k)
      by_cases hit : kindN (cutA t) = k
      · have hb : ((wordAt k).toList == (cutA t).toList) = true := by
          rw [Lib.toList_data, Lib.toList_data, hwl.out, beq_iff_eq]; exact (kindN_word_iff hk1 hlt).1 hit
        have Hit := Lib.hid hit
        clear hit
        go_wp2_with fail
        refine (wordOf_any k _ hk1 hlt).mono ?_
        rintro e w2 ⟨rfl, hb2⟩
        have hs2 := HS.out.st.below hb2
        have c0 := hs2.c0
        have f0 := hs2.fz 0
        have HS2 := Lib.hid hs2
        clear hs2
        go_wp2
        go_roundw
        case rel =>
          refine ⟨k + 1, by omega, by omega, by go_num, ?_, ?_, ?_⟩
          · exact (bel_trans HS.out.bel hb2).setCell (by simp) _
          · exact (HS.out.res.below hb2).other (by omega)
          · rw [kindBefore_hit Hit.out]; exact HS2.out.set0
        case measure => simp [intOf]; omega
      · have hb : ((wordAt k).toList == (cutA t).toList) = false := by
          rw [Lib.toList_data, Lib.toList_data, hwl.out, beq_eq_false_iff_ne]; exact fun e => hit ((kindN_word_iff hk1 hlt).2 e)
        have Hit := Lib.hid hit
        clear hit
        go_wp2_with fail
        refine (wordOf_any k _ hk1 hlt).mono ?_
        rintro e w2 ⟨rfl, hb2⟩
        go_wp2
        go_roundw
        case rel =>
          refine ⟨k + 1, by omega, by omega, by go_num, ?_, ?_, ?_⟩
          · exact bel_trans HS.out.bel hb2
          · exact HS.out.res.below hb2
          · rw [kindBefore_miss Hit.out]; exact HS.out.st.below hb2
        case measure => simp [intOf]; omega
    · obtain rfl : k = 12 := by omega
      obtain ⟨bel, res, st⟩ := hS
      rw [kindBefore_all] at st
      have HR := Lib.hid res
      have HT := Lib.hid st
      have r0 := res.c0
      have r1 := res.c1
      have r2 := res.c2
      have rf := res.fz
      have s0 := st.c0
      have s1 := st.c1
      have s2 := st.c2
      have sf := st.fz
      have sz := st.lt
      clear res st
      by_cases hk0 : kindN (cutA t) = 0
      · have hv := Lib.hid (show ofV t = .tuple #[.agg #[.int .i64 0, .string ⟨#[]⟩, .string ⟨#[]⟩], .int .i64 3] by
          unfold ofV
          have : readE t = 3 := by rw [readE_split (by omega) (by rw [splitE_kind hk0]; decide), splitE_kind hk0]
          rw [this, if_neg (by decide)])
        rw [hk0] at s0
        go_wp2
        refine bodyPost_ret (v := .tuple #[.agg #[.int .i64 0, .string ⟨#[]⟩, .string ⟨#[]⟩], .int .i64 3]) (by simp [results, Tryd.results16, go_sem, r0, r1, r2]) rfl ⟨by rw [hv.out], ?_⟩
        repeat' (first | exact Below.refl _ _ | assumption | with_reducible refine below_drewN ?_ _ | with_reducible refine Below.drew ?_ | with_reducible refine Below.setCell ?_ ?_ _ | with_reducible refine Below.alloc ?_ ?_ _ | (simp; done) | (simp; omega))
      · have hk0' : ((kindN (cutA t) : Int) == 0) = false := beq_eq_false_iff_ne.2 (by omega)
        have HK0 := Lib.hid hk0
        clear hk0
        cases h1 : cutF t
        · have hkey := Lib.hid (cutF_parts h1)
          have hE := splitE_zero HK0.out (splitBad_none h1)
          have HRd := Lib.hid (readE_check (t := t) (by omega) hE)
          have HFa := Lib.hid (HF.out hE)
          rw [hkey.out.1, hkey.out.2] at HRd HFa
          clear hE HF
          go_wp2_with fail
          refine (HFa.out _).mono ?_
          rintro e w4 ⟨rfl, hb4⟩
          have st4 := (HT.out).below hb4
          have re4 := (HR.out).below hb4
          obtain ⟨b4, z0, z1, z2, zf⟩ := st4
          obtain ⟨b5, q0, q1, q2, qf⟩ := re4
          have bel4 : Below w.heap.size w w4 := Below.trans (bel) (hb4.mono (by omega))
          clear hb4 r0 r1 r2 rf s0 s1 s2 sf
          by_cases hc : checkE (kindN (cutA t)) ⟨#[]⟩ ⟨#[]⟩ = 0
          · have hv := Lib.hid (ofV_ok (show readE t = 0 by rw [HRd.out]; exact hc))
            rw [hc]
            clear hc
            go_wp2
            refine bodyPost_ret (v := .tuple #[.agg #[.int .i64 (kindN (cutA t)), .string ⟨#[]⟩, .string ⟨#[]⟩], .int .i64 0]) (by simp [results, Tryd.results16, go_sem, q0, q1, q2]) rfl ⟨by rw [hv.out, hkey.out.1, hkey.out.2], ?_⟩
            repeat' (first | exact Below.refl _ _ | assumption | with_reducible refine below_drewN ?_ _ | with_reducible refine Below.drew ?_ | with_reducible refine Below.setCell ?_ ?_ _ | with_reducible refine Below.alloc ?_ ?_ _ | (simp; done) | (simp; omega))
          · have hv := Lib.hid (ofV_no (show readE t ≠ 0 by rw [HRd.out]; exact hc))
            have hv2 := Lib.hid HRd.out
            have hne : (checkE (kindN (cutA t)) ⟨#[]⟩ ⟨#[]⟩ != 0) = true := bne_iff_ne.2 hc
            generalize checkE (kindN (cutA t)) ⟨#[]⟩ ⟨#[]⟩ = c at *
            clear hc
            go_wp2
            refine bodyPost_ret (v := .tuple #[.agg #[.int .i64 0, .string ⟨#[]⟩, .string ⟨#[]⟩], .int .i64 c]) (by simp [results, Tryd.results16, go_sem, q0, q1, q2]) rfl ⟨by rw [hv.out, hv2.out], ?_⟩
            repeat' (first | exact Below.refl _ _ | assumption | with_reducible refine below_drewN ?_ _ | with_reducible refine Below.drew ?_ | with_reducible refine Below.setCell ?_ ?_ _ | with_reducible refine Below.alloc ?_ ?_ _ | (simp; done) | (simp; omega))
          
        · cases h2 : (cutA (cutB t)).toList.isEmpty
          · cases h3 : cutF (cutB t)
            · have hE := splitE_zero HK0.out (show splitBad t = false by unfold splitBad; rw [h1, h2, h3]; rfl)
              have HRd := Lib.hid (readE_check (t := t) (by omega) hE)
              have HFa := Lib.hid (HF.out hE)
              clear hE HF
              go_wp2_with fail
              refine (upTo_any (cutB t) _ hs2).mono ?_
              rw [h3]
              rintro e w3 ⟨rfl, m, rfl⟩
              go_wp2_with fail
              refine (HFa.out _).mono ?_
              rintro e w4 ⟨rfl, hb4⟩
              have st4 := ((HT.out.below (below_drewN (Below.refl _ _) m)).set12).below hb4
              have re4 := (((HR.out.below (below_drewN (Below.refl _ _) m)).other (by omega)).other (by omega)).below hb4
              obtain ⟨b4, z0, z1, z2, zf⟩ := st4
              obtain ⟨b5, q0, q1, q2, qf⟩ := re4
              have bel4 : Below w.heap.size w w4 := Below.trans (((below_drewN bel m).setCell (by simp) _).setCell (by simp) _) (hb4.mono (by simp; omega))
              clear hb4 r0 r1 r2 rf s0 s1 s2 sf
              by_cases hc : checkE (kindN (cutA t)) (cutA (cutB t)) (cutB (cutB t)) = 0
              · have hv := Lib.hid (ofV_ok (show readE t = 0 by rw [HRd.out]; exact hc))
                rw [hc]
                clear hc
                go_wp2
                refine bodyPost_ret (v := .tuple #[.agg #[.int .i64 (kindN (cutA t)), .string (cutA (cutB t)), .string (cutB (cutB t))], .int .i64 0]) (by simp [results, Tryd.results16, go_sem, q0, q1, q2]) rfl ⟨by rw [hv.out], ?_⟩
                repeat' (first | exact Below.refl _ _ | assumption | with_reducible refine below_drewN ?_ _ | with_reducible refine Below.drew ?_ | with_reducible refine Below.setCell ?_ ?_ _ | with_reducible refine Below.alloc ?_ ?_ _ | (simp; done) | (simp; omega))
              · have hv := Lib.hid (ofV_no (show readE t ≠ 0 by rw [HRd.out]; exact hc))
                have hv2 := Lib.hid HRd.out
                have hne : (checkE (kindN (cutA t)) (cutA (cutB t)) (cutB (cutB t)) != 0) = true := bne_iff_ne.2 hc
                generalize checkE (kindN (cutA t)) (cutA (cutB t)) (cutB (cutB t)) = c at *
                clear hc
                go_wp2
                refine bodyPost_ret (v := .tuple #[.agg #[.int .i64 0, .string ⟨#[]⟩, .string ⟨#[]⟩], .int .i64 c]) (by simp [results, Tryd.results16, go_sem, q0, q1, q2]) rfl ⟨by rw [hv.out, hv2.out], ?_⟩
                repeat' (first | exact Below.refl _ _ | assumption | with_reducible refine below_drewN ?_ _ | with_reducible refine Below.drew ?_ | with_reducible refine Below.setCell ?_ ?_ _ | with_reducible refine Below.alloc ?_ ?_ _ | (simp; done) | (simp; omega))
              
            · cases h4 : (cutB (cutB t)).toList.isEmpty
              · have hE := splitE_zero HK0.out (show splitBad t = false by unfold splitBad; rw [h1, h2, h3, h4]; rfl)
                have HRd := Lib.hid (readE_check (t := t) (by omega) hE)
                have HFa := Lib.hid (HF.out hE)
                clear hE HF
                go_wp2_with fail
                refine (upTo_any (cutB t) _ hs2).mono ?_
                rw [h3]
                rintro e w3 ⟨rfl, m, rfl⟩
                go_wp2_with fail
                refine (HFa.out _).mono ?_
                rintro e w4 ⟨rfl, hb4⟩
                have st4 := ((HT.out.below (below_drewN (Below.refl _ _) m)).set12).below hb4
                have re4 := (((HR.out.below (below_drewN (Below.refl _ _) m)).other (by omega)).other (by omega)).below hb4
                obtain ⟨b4, z0, z1, z2, zf⟩ := st4
                obtain ⟨b5, q0, q1, q2, qf⟩ := re4
                have bel4 : Below w.heap.size w w4 := Below.trans (((below_drewN bel m).setCell (by simp) _).setCell (by simp) _) (hb4.mono (by simp; omega))
                clear hb4 r0 r1 r2 rf s0 s1 s2 sf
                by_cases hc : checkE (kindN (cutA t)) (cutA (cutB t)) (cutB (cutB t)) = 0
                · have hv := Lib.hid (ofV_ok (show readE t = 0 by rw [HRd.out]; exact hc))
                  rw [hc]
                  clear hc
                  go_wp2
                  refine bodyPost_ret (v := .tuple #[.agg #[.int .i64 (kindN (cutA t)), .string (cutA (cutB t)), .string (cutB (cutB t))], .int .i64 0]) (by simp [results, Tryd.results16, go_sem, q0, q1, q2]) rfl ⟨by rw [hv.out], ?_⟩
                  repeat' (first | exact Below.refl _ _ | assumption | with_reducible refine below_drewN ?_ _ | with_reducible refine Below.drew ?_ | with_reducible refine Below.setCell ?_ ?_ _ | with_reducible refine Below.alloc ?_ ?_ _ | (simp; done) | (simp; omega))
                · have hv := Lib.hid (ofV_no (show readE t ≠ 0 by rw [HRd.out]; exact hc))
                  have hv2 := Lib.hid HRd.out
                  have hne : (checkE (kindN (cutA t)) (cutA (cutB t)) (cutB (cutB t)) != 0) = true := bne_iff_ne.2 hc
                  generalize checkE (kindN (cutA t)) (cutA (cutB t)) (cutB (cutB t)) = c at *
                  clear hc
                  go_wp2
                  refine bodyPost_ret (v := .tuple #[.agg #[.int .i64 0, .string ⟨#[]⟩, .string ⟨#[]⟩], .int .i64 c]) (by simp [results, Tryd.results16, go_sem, q0, q1, q2]) rfl ⟨by rw [hv.out, hv2.out], ?_⟩
                  repeat' (first | exact Below.refl _ _ | assumption | with_reducible refine below_drewN ?_ _ | with_reducible refine Below.drew ?_ | with_reducible refine Below.setCell ?_ ?_ _ | with_reducible refine Below.alloc ?_ ?_ _ | (simp; done) | (simp; omega))
                
              · have hv := Lib.hid (ofV_form (by omega) HK0.out (show splitBad t = true by unfold splitBad; rw [h1, h2, h3, h4]; rfl))
                go_wp2_with fail
                refine (upTo_any (cutB t) _ hs2).mono ?_
                rw [h3]
                rintro e w3 ⟨rfl, m, rfl⟩
                go_wp2
                refine bodyPost_ret (v := .tuple #[.agg #[.int .i64 0, .string ⟨#[]⟩, .string ⟨#[]⟩], .int .i64 4]) (by simp [results, Tryd.results16, go_sem, r0, r1, r2]) rfl ⟨by rw [hv.out], ?_⟩
                repeat' (first | exact Below.refl _ _ | assumption | with_reducible refine below_drewN ?_ _ | with_reducible refine Below.drew ?_ | with_reducible refine Below.setCell ?_ ?_ _ | with_reducible refine Below.alloc ?_ ?_ _ | (simp; done) | (simp; omega))
                
          · have hv := Lib.hid (ofV_form (by omega) HK0.out (show splitBad t = true by unfold splitBad; rw [h1, h2]; rfl))
            go_wp2_with fail
            refine (upTo_any (cutB t) _ hs2).mono ?_
            rintro e w3 ⟨rfl, m, rfl⟩
            go_wp2
            refine bodyPost_ret (v := .tuple #[.agg #[.int .i64 0, .string ⟨#[]⟩, .string ⟨#[]⟩], .int .i64 4]) (by simp [results, Tryd.results16, go_sem, r0, r1, r2]) rfl ⟨by rw [hv.out], ?_⟩
            repeat' (first | exact Below.refl _ _ | assumption | with_reducible refine below_drewN ?_ _ | with_reducible refine Below.drew ?_ | with_reducible refine Below.setCell ?_ ?_ _ | with_reducible refine Below.alloc ?_ ?_ _ | (simp; done) | (simp; omega))
            
end Go.Proofs.YtpbaobmegomfpaaDoor
