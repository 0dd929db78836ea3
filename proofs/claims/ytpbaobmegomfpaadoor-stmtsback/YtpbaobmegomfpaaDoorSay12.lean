/-
  Walks of say.Read.
-/
import Derived.Test.YtpbaobmegomfpaaDoorSay6
import Derived.Test.YtpbaobmegomfpaaDoorMath3
import Derived.Test.YtpbaobmegomfpaaDoorClone
import Derived.Test.YtpbaobmegomfpaaDoorStm
import Derived.Deep.RegionHeld3
import Derived.Deep.RegionWith
namespace Go.Proofs.YtpbaobmegomfpaaDoor
open Go.RowKit
set_option linter.unusedVariables false
set_option maxRecDepth 100000

theorem cell_set3 {w : World} {b R i : Nat} {u x y z : Value} (h : w.cell? ⟨b, i, none⟩ = some u) (hne : b ≠ R) :
    (((w.setCell ⟨R, 0, none⟩ x).setCell ⟨R, 1, none⟩ y).setCell ⟨R, 2, none⟩ z).cell? ⟨b, i, none⟩ = some u := by
  simp [go_sem, h]

set_option maxHeartbeats 1000000 in
theorem read_ok (t : ByteArray) (w : World) (hW : Words w) (h : readE t = 0) :
    Calls Tryd.prog 15 #[.string t] w fun e w' => e = .returned (.tuple #[.agg #[.int .i64 (kindN (cutA t)), .string (cutA (cutB t)), .string (cutB (cutB t))], .int .i64 0]) ∧ Below w.heap.size w w' := by
  have HW := Lib.hid hW
  clear hW
  have hl : ¬ 60 < t.size := fun hl => by rw [readE_long hl] at h; cases h
  have hsp : splitE t = 0 := Classical.byContradiction fun hs => by rw [readE_split hl hs] at h; exact hs h
  have hck := readE_check hl hsp
  rw [h] at hck
  have hd : decide (60 < (t.size : Int)) = false := decide_eq_false (by omega)
  have hg := good_of hck.symm
  have k8 := hg.key8
  have v60 := hg.v60
  have HSP := Lib.hid (split_ok t (w.alloc (.cells #[.int .i64 0, .string ⟨#[]⟩, .string ⟨#[]⟩] 23)) (by unfold maxLen; omega) (HW.out.alloc _) hsp)
  have HCK := Lib.hid hck
  clear hck hsp h hg
  generalize kindN (cutA t) = k at *
  generalize cutA (cutB t) = key at *
  generalize cutB (cutB t) = v at *
  go_enter Tryd.func15, Tryd.ntmps15
  go_wp2_with fail
  refine HSP.out.mono ?_
  rintro e w1 ⟨rfl, hb⟩
  have R := (Stm.new w 0 ⟨#[]⟩ ⟨#[]⟩ 23).below hb
  have HR := Lib.hid R
  clear R
  go_wp2_with fail
  have hc := check_any k key v (w1.alloc (.cells #[.int .i64 k, .string key, .string v] 23)) (by unfold maxLen; omega) (by unfold maxLen; omega) (((HW.out.alloc _).below hb).alloc _)
  rw [← HCK.out] at hc
  refine hc.mono ?_
  clear hc
  rintro e w2 ⟨rfl, hb2⟩
  have S2 := (Stm.new w1 k key v 23).below hb2
  have R2 := (HR.out.below ((Below.refl _ _).alloc (Nat.le_refl _) (.cells #[.int .i64 k, .string key, .string v] 23))).below hb2
  obtain ⟨sl, s0, s1, s2, sf⟩ := S2
  obtain ⟨rl, r0, r1, r2, rf⟩ := R2
  have b2 : Below w.heap.size w w2 := bel_trans ((bel_trans ((Below.refl _ _).alloc (Nat.le_refl _) _) hb).alloc (bel_trans ((Below.refl _ _).alloc (Nat.le_refl _) _) hb).size _) hb2
  have hne : w1.heap.size ≠ w.heap.size := by have := HR.out.lt; omega
  go_wp2
  go_region_held3 (fun wx => wx.cell? ⟨w1.heap.size, 0, none⟩ = some (.int .i64 k) ∧ wx.cell? ⟨w1.heap.size, 1, none⟩ = some (.string key) ∧ wx.cell? ⟨w1.heap.size, 2, none⟩ = some (.string v))
    (first | exact ⟨p0, p1, p2⟩ | exact ⟨s0, s1, s2⟩ | exact ⟨cell_set3 p0 hne, cell_set3 p1 hne, cell_set3 p2 hne⟩)
    (first
      | (
        go_at_call_of 31 (Value.string key)
        refine (clone_any key _ (by omega)).mono ?_
        rintro e w3 ⟨rfl, hy⟩
        have q0 : w3.cell? ⟨w.heap.size, 0, none⟩ = some (.int .i64 0) := by first | exact (hy.cell (p := ⟨w.heap.size, 0, none⟩) rl).trans r0 | exact (hy.cell (p := ⟨w.heap.size, 0, none⟩) ql).trans q0
        have q1 : w3.cell? ⟨w.heap.size, 1, none⟩ = some (.string ⟨#[]⟩) := by first | exact (hy.cell (p := ⟨w.heap.size, 1, none⟩) rl).trans r1 | exact (hy.cell (p := ⟨w.heap.size, 1, none⟩) ql).trans q1
        have q2 : w3.cell? ⟨w.heap.size, 2, none⟩ = some (.string ⟨#[]⟩) := by first | exact (hy.cell (p := ⟨w.heap.size, 2, none⟩) rl).trans r2 | exact (hy.cell (p := ⟨w.heap.size, 2, none⟩) ql).trans q2
        have qf : ∀ i, w3.frozen? ⟨w.heap.size, i, none⟩ = false := by first | exact fun i => (hy.frozen (p := ⟨w.heap.size, i, none⟩) rl).trans (rf i) | exact fun i => (hy.frozen (p := ⟨w.heap.size, i, none⟩) ql).trans (qf i)
        have p0 : w3.cell? ⟨w1.heap.size, 0, none⟩ = some (.int .i64 k) := by first | exact (hy.cell (p := ⟨w1.heap.size, 0, none⟩) sl).trans s0 | exact (hy.cell (p := ⟨w1.heap.size, 0, none⟩) pl).trans p0
        have p1 : w3.cell? ⟨w1.heap.size, 1, none⟩ = some (.string key) := by first | exact (hy.cell (p := ⟨w1.heap.size, 1, none⟩) sl).trans s1 | exact (hy.cell (p := ⟨w1.heap.size, 1, none⟩) pl).trans p1
        have p2 : w3.cell? ⟨w1.heap.size, 2, none⟩ = some (.string v) := by first | exact (hy.cell (p := ⟨w1.heap.size, 2, none⟩) sl).trans s2 | exact (hy.cell (p := ⟨w1.heap.size, 2, none⟩) pl).trans p2
        have pb : Below w.heap.size w w3 := by first | exact b2.trans ⟨hy.os, hy.tape, hy.output, hy.size, fun i hi => hy.block i (by first | exact Nat.lt_trans hi rl | exact Nat.lt_of_lt_of_le hi b2.size)⟩ | exact pb.trans (hy.mono pb.size)
        have ql : w.heap.size < w3.heap.size := by first | exact Nat.lt_of_lt_of_le rl hy.size | exact Nat.lt_of_lt_of_le ql hy.size
        have pl : w1.heap.size < w3.heap.size := by first | exact Nat.lt_of_lt_of_le sl hy.size | exact Nat.lt_of_lt_of_le pl hy.size)
      | (
        go_at_call_of 31 (Value.string v)
        refine (clone_any v _ (by omega)).mono ?_
        rintro e w3 ⟨rfl, hy⟩
        have q0 : w3.cell? ⟨w.heap.size, 0, none⟩ = some (.int .i64 0) := by first | exact (hy.cell (p := ⟨w.heap.size, 0, none⟩) rl).trans r0 | exact (hy.cell (p := ⟨w.heap.size, 0, none⟩) ql).trans q0
        have q1 : w3.cell? ⟨w.heap.size, 1, none⟩ = some (.string ⟨#[]⟩) := by first | exact (hy.cell (p := ⟨w.heap.size, 1, none⟩) rl).trans r1 | exact (hy.cell (p := ⟨w.heap.size, 1, none⟩) ql).trans q1
        have q2 : w3.cell? ⟨w.heap.size, 2, none⟩ = some (.string ⟨#[]⟩) := by first | exact (hy.cell (p := ⟨w.heap.size, 2, none⟩) rl).trans r2 | exact (hy.cell (p := ⟨w.heap.size, 2, none⟩) ql).trans q2
        have qf : ∀ i, w3.frozen? ⟨w.heap.size, i, none⟩ = false := by first | exact fun i => (hy.frozen (p := ⟨w.heap.size, i, none⟩) rl).trans (rf i) | exact fun i => (hy.frozen (p := ⟨w.heap.size, i, none⟩) ql).trans (qf i)
        have p0 : w3.cell? ⟨w1.heap.size, 0, none⟩ = some (.int .i64 k) := by first | exact (hy.cell (p := ⟨w1.heap.size, 0, none⟩) sl).trans s0 | exact (hy.cell (p := ⟨w1.heap.size, 0, none⟩) pl).trans p0
        have p1 : w3.cell? ⟨w1.heap.size, 1, none⟩ = some (.string key) := by first | exact (hy.cell (p := ⟨w1.heap.size, 1, none⟩) sl).trans s1 | exact (hy.cell (p := ⟨w1.heap.size, 1, none⟩) pl).trans p1
        have p2 : w3.cell? ⟨w1.heap.size, 2, none⟩ = some (.string v) := by first | exact (hy.cell (p := ⟨w1.heap.size, 2, none⟩) sl).trans s2 | exact (hy.cell (p := ⟨w1.heap.size, 2, none⟩) pl).trans p2
        have pb : Below w.heap.size w w3 := by first | exact b2.trans ⟨hy.os, hy.tape, hy.output, hy.size, fun i hi => hy.block i (by first | exact Nat.lt_trans hi rl | exact Nat.lt_of_lt_of_le hi b2.size)⟩ | exact pb.trans (hy.mono pb.size)
        have ql : w.heap.size < w3.heap.size := by first | exact Nat.lt_of_lt_of_le rl hy.size | exact Nat.lt_of_lt_of_le ql hy.size
        have pl : w1.heap.size < w3.heap.size := by first | exact Nat.lt_of_lt_of_le sl hy.size | exact Nat.lt_of_lt_of_le pl hy.size))
  all_goals go_wp2
  all_goals refine bodyPost_ret (v := .tuple #[.agg #[.int .i64 k, .string key, .string v], .int .i64 0]) (by simp [results, Tryd.results15, go_sem, q0, q1, q2]) rfl ⟨rfl, ?_⟩
  all_goals repeat' (first | exact Below.refl _ _ | assumption | with_reducible refine below_drewN ?_ _ | with_reducible refine Below.drew ?_ | with_reducible refine Below.setCell ?_ ?_ _ | with_reducible refine Below.alloc ?_ ?_ _ | (simp; done) | (simp; omega))

theorem read_long (t : ByteArray) (w : World) (h : 60 < t.size) :
    Calls Tryd.prog 15 #[.string t] w fun e w' => e = .returned (.tuple #[.agg #[.int .i64 0, .string ⟨#[]⟩, .string ⟨#[]⟩], .int .i64 1]) ∧ Below w.heap.size w w' := by
  have hd : decide (60 < (t.size : Int)) = true := decide_eq_true (by omega)
  go_enter Tryd.func15, Tryd.ntmps15
  go_wp2
  refine bodyPost_ret (v := .tuple #[.agg #[.int .i64 0, .string ⟨#[]⟩, .string ⟨#[]⟩], .int .i64 1]) (by simp [results, Tryd.results15, go_sem]) rfl ⟨rfl, ?_⟩
  repeat' (first | exact Below.refl _ _ | assumption | with_reducible refine below_drewN ?_ _ | with_reducible refine Below.drew ?_ | with_reducible refine Below.setCell ?_ ?_ _ | with_reducible refine Below.alloc ?_ ?_ _ | (simp; done) | (simp; omega))

set_option maxHeartbeats 400000 in
theorem read_split (t : ByteArray) (w : World) (hW : Words w) (hl : ¬ 60 < t.size) (h : splitE t ≠ 0) :
    Calls Tryd.prog 15 #[.string t] w fun e w' => e = .returned (.tuple #[.agg #[.int .i64 0, .string ⟨#[]⟩, .string ⟨#[]⟩], .int .i64 (splitE t)]) ∧ Below w.heap.size w w' := by
  have hd : decide (60 < (t.size : Int)) = false := decide_eq_false (by omega)
  have HSP := Lib.hid (split_no t (w.alloc (.cells #[.int .i64 0, .string ⟨#[]⟩, .string ⟨#[]⟩] 23)) (by unfold maxLen; omega) (hW.alloc _) h)
  have h1 : (splitE t == 0) = false := beq_eq_false_iff_ne.2 h
  have h2 : (splitE t != 0) = true := bne_iff_ne.2 h
  generalize splitE t = c at *
  clear hW h
  go_enter Tryd.func15, Tryd.ntmps15
  go_wp2_with fail
  refine HSP.out.mono ?_
  rintro e w1 ⟨rfl, hb⟩
  obtain ⟨rl, r0, r1, r2, rf⟩ := (Stm.new w 0 ⟨#[]⟩ ⟨#[]⟩ 23).below hb
  have bel := bel_trans ((Below.refl _ _).alloc (Nat.le_refl _) _) hb
  go_wp2
  refine bodyPost_ret (v := .tuple #[.agg #[.int .i64 0, .string ⟨#[]⟩, .string ⟨#[]⟩], .int .i64 c]) (by simp [results, Tryd.results15, go_sem, r0, r1, r2, rl]) rfl ⟨rfl, ?_⟩
  repeat' (first | exact Below.refl _ _ | assumption | with_reducible refine below_drewN ?_ _ | with_reducible refine Below.drew ?_ | with_reducible refine Below.setCell ?_ ?_ _ | with_reducible refine Below.alloc ?_ ?_ _ | (simp; done) | (simp; omega))

set_option maxHeartbeats 400000 in
theorem read_check (t : ByteArray) (w : World) (hW : Words w) (hl : ¬ 60 < t.size) (h : splitE t = 0) (hc : checkE (kindN (cutA t)) (cutA (cutB t)) (cutB (cutB t)) ≠ 0) :
    Calls Tryd.prog 15 #[.string t] w fun e w' => e = .returned (.tuple #[.agg #[.int .i64 0, .string ⟨#[]⟩, .string ⟨#[]⟩], .int .i64 (checkE (kindN (cutA t)) (cutA (cutB t)) (cutB (cutB t)))]) ∧ Below w.heap.size w w' := by
  have hd : decide (60 < (t.size : Int)) = false := decide_eq_false (by omega)
  have HW := Lib.hid hW
  have HSP := Lib.hid (split_ok t (w.alloc (.cells #[.int .i64 0, .string ⟨#[]⟩, .string ⟨#[]⟩] 23)) (by unfold maxLen; omega) (hW.alloc _) h)
  have hk8 : (cutA (cutB t)).size ≤ maxLen := by rw [cutA_size]; have := cutI_le (cutB t); have := cutB_size t; unfold maxLen; omega
  have hv8 : (cutB (cutB t)).size ≤ maxLen := by rw [cutB_size]; have := cutB_size t; unfold maxLen; omega
  generalize kindN (cutA t) = k at *
  generalize cutA (cutB t) = key at *
  generalize cutB (cutB t) = v at *
  have h2 : (checkE k key v != 0) = true := bne_iff_ne.2 hc
  clear hW h hc
  go_enter Tryd.func15, Tryd.ntmps15
  go_wp2_with fail
  refine HSP.out.mono ?_
  rintro e w1 ⟨rfl, hb⟩
  have HR := Lib.hid ((Stm.new w 0 ⟨#[]⟩ ⟨#[]⟩ 23).below hb)
  go_wp2_with fail
  refine (check_any k key v (w1.alloc (.cells #[.int .i64 k, .string key, .string v] 23)) hk8 hv8 (((HW.out.alloc _).below hb).alloc _)).mono ?_
  rintro e w2 ⟨rfl, hb2⟩
  obtain ⟨rl, r0, r1, r2, rf⟩ := (HR.out.below ((Below.refl _ _).alloc (Nat.le_refl _) (.cells #[.int .i64 k, .string key, .string v] 23))).below hb2
  have bel : Below w.heap.size w w2 := bel_trans ((bel_trans ((Below.refl _ _).alloc (Nat.le_refl _) _) hb).alloc (bel_trans ((Below.refl _ _).alloc (Nat.le_refl _) _) hb).size _) hb2
  go_wp2
  refine bodyPost_ret (v := .tuple #[.agg #[.int .i64 0, .string ⟨#[]⟩, .string ⟨#[]⟩], .int .i64 (checkE k key v)]) (by simp [results, Tryd.results15, go_sem, r0, r1, r2]) rfl ⟨rfl, ?_⟩
  repeat' (first | exact Below.refl _ _ | assumption | with_reducible refine below_drewN ?_ _ | with_reducible refine Below.drew ?_ | with_reducible refine Below.setCell ?_ ?_ _ | with_reducible refine Below.alloc ?_ ?_ _ | (simp; done) | (simp; omega))

theorem read_no (t : ByteArray) (w : World) (hW : Words w) (h : readE t ≠ 0) :
    Calls Tryd.prog 15 #[.string t] w fun e w' => e = .returned (.tuple #[.agg #[.int .i64 0, .string ⟨#[]⟩, .string ⟨#[]⟩], .int .i64 (readE t)]) ∧ Below w.heap.size w w' := by
  by_cases hl : 60 < t.size
  · rw [readE_long hl]; exact read_long t w hl
  · by_cases hs : splitE t = 0
    · rw [readE_check hl hs] at h ⊢; exact read_check t w hW hl hs h
    · rw [readE_split hl hs]; exact read_split t w hW hl hs

end Go.Proofs.YtpbaobmegomfpaaDoor
