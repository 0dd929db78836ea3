/-
  Walks of say.Show and the reference's StmtText.
-/
import Derived.Test.YtpbaobmegomfpaaDoorSay10
import Derived.Test.YtpbaobmegomfpaaDoorMath3
namespace Go.Proofs.YtpbaobmegomfpaaDoor
open Go.RowKit
set_option linter.unusedVariables false
set_option maxRecDepth 100000

set_option maxHeartbeats 400000 in
theorem show_no (k : Int) (key v : ByteArray) (w : World) (hs : key.size ≤ maxLen) (hv : v.size ≤ maxLen) (hW : Words w) (h : checkE k key v ≠ 0) :
    Calls Tryd.prog 13 #[.agg #[.int .i64 k, .string key, .string v]] w fun e w' => e = .returned (.tuple #[.string ⟨#[]⟩, .int .i64 (checkE k key v)]) ∧ Below w.heap.size w w' := by
  have HW := Lib.hid hW
  have hc := Lib.hid (check_any k key v (w.alloc (.cells #[.int .i64 k, .string key, .string v] 23)) hs hv (HW.out.alloc _))
  have hne : (checkE k key v != 0) = true := bne_iff_ne.2 h
  generalize checkE k key v = c at *
  clear hW h
  go_enter Tryd.func13, Tryd.ntmps13
  go_wp2_with fail
  refine hc.out.mono ?_
  rintro e w1 ⟨rfl, hb⟩
  go_wp2
  go_ret2
  exact ⟨rfl, bel_trans ((Below.refl _ _).alloc (Nat.le_refl _) _) hb⟩

set_option maxHeartbeats 1000000 in
theorem show_ok (k : Nat) (key v : ByteArray) (w : World) (hW : Words w) (h : checkE k key v = 0) :
    Calls Tryd.prog 13 #[.agg #[.int .i64 k, .string key, .string v]] w fun e w' => e = .returned (.tuple #[.string (textOf k key v), .int .i64 0]) ∧ Below w.heap.size w w' := by
  have HW := Lib.hid hW
  obtain ⟨g1, g2, g3, g4, g5, g6⟩ := good_of h
  have hc := check_any k key v (w.alloc (.cells #[.int .i64 k, .string key, .string v] 23)) (by unfold maxLen; omega) (by unfold maxLen; omega) (HW.out.alloc _)
  rw [h] at hc
  have HC := Lib.hid hc
  have hws := wordAt_size (k := k) (by omega)
  clear hW hc h
  by_cases h6 : k < 6
  · have ht := Lib.hid (textOf_6 (key := key) (v := v) h6)
    rw [decide_eq_true (by omega)] at g5 g6
    go_enter Tryd.func13, Tryd.ntmps13
    go_wp2_with fail
    refine HC.out.mono ?_
    rintro e w1 ⟨rfl, hb⟩
    have c := (Stm.new w k key v 23).below hb
    have c0 := c.c0
    have c1 := c.c1
    have c2 := c.c2
    have cw := ((HW.out.alloc _).below hb).cell k (by omega)
    clear c
    go_wp2
    go_ret2
    exact ⟨by rw [ht.out]; rfl, bel_trans ((Below.refl _ _).alloc (Nat.le_refl _) _) hb⟩
  · by_cases h9 : k < 9
    · have ht := Lib.hid (textOf_9 (key := key) (v := v) h6 h9)
      rw [decide_eq_false (by omega)] at g5
      rw [decide_eq_true (by omega)] at g6
      go_enter Tryd.func13, Tryd.ntmps13
      go_wp2_with fail
      refine HC.out.mono ?_
      rintro e w1 ⟨rfl, hb⟩
      have c := (Stm.new w k key v 23).below hb
      have c0 := c.c0
      have c1 := c.c1
      have c2 := c.c2
      have cw := ((HW.out.alloc _).below hb).cell k (by omega)
      clear c
      go_wp2
      go_ret2
      exact ⟨by rw [ht.out]; rfl, bel_trans ((Below.refl _ _).alloc (Nat.le_refl _) _) hb⟩
    · have ht := Lib.hid (textOf_12 (key := key) (v := v) h9)
      rw [decide_eq_false (by omega)] at g5 g6
      go_enter Tryd.func13, Tryd.ntmps13
      go_wp2_with fail
      refine HC.out.mono ?_
      rintro e w1 ⟨rfl, hb⟩
      have c := (Stm.new w k key v 23).below hb
      have c0 := c.c0
      have c1 := c.c1
      have c2 := c.c2
      have cw := ((HW.out.alloc _).below hb).cell k (by omega)
      clear c
      go_wp2
      go_ret2
      exact ⟨by rw [ht.out]; rfl, bel_trans ((Below.refl _ _).alloc (Nat.le_refl _) _) hb⟩

set_option maxHeartbeats 400000 in
theorem stmtText_no (k : Int) (key v : ByteArray) (w : World) (hs : key.size ≤ maxLen) (hv : v.size ≤ maxLen) (h : checkE k key v ≠ 0) :
    Calls Tryd.prog 14 #[.agg #[.int .i64 k, .string key, .string v]] w fun e w' => e = .returned (.tuple #[.string ⟨#[]⟩, .int .i64 (checkE k key v)]) ∧ Below w.heap.size w w' := by
  have hc := Lib.hid (stmtFault_any k key v hs hv (w.alloc (.cells #[.int .i64 k, .string key, .string v] 23)))
  have hne : (checkE k key v != 0) = true := bne_iff_ne.2 h
  generalize checkE k key v = c at *
  clear h
  go_enter Tryd.func14, Tryd.ntmps14
  go_wp2_with fail
  refine hc.out.mono ?_
  rintro e w1 ⟨rfl, hb⟩
  go_wp2
  go_ret2
  exact ⟨rfl, bel_trans ((Below.refl _ _).alloc (Nat.le_refl _) _) hb⟩

set_option maxHeartbeats 1000000 in
theorem stmtText_ok (k : Nat) (key v : ByteArray) (w : World) (h : checkE k key v = 0) :
    Calls Tryd.prog 14 #[.agg #[.int .i64 k, .string key, .string v]] w fun e w' => e = .returned (.tuple #[.string (textOf k key v), .int .i64 0]) ∧ Below w.heap.size w w' := by
  obtain ⟨g1, g2, g3, g4, g5, g6⟩ := good_of h
  have hc := stmtFault_any k key v (by unfold maxLen; omega) (by unfold maxLen; omega) (w.alloc (.cells #[.int .i64 k, .string key, .string v] 23))
  rw [h] at hc
  have HC := Lib.hid hc
  have hws := wordAt_size (k := k) (by omega)
  clear hc h g5 g6
  by_cases h6 : k < 6
  · have ht := Lib.hid (textOf_6 (key := key) (v := v) h6)
    go_enter Tryd.func14, Tryd.ntmps14
    go_wp2_with fail
    refine HC.out.mono ?_
    rintro e w1 ⟨rfl, hb⟩
    have c := (Stm.new w k key v 23).below hb
    have c0 := c.c0
    have C := Lib.hid c
    clear c
    go_wp2_with fail
    refine (wordOf_any k _ (by omega) (by omega)).mono ?_
    rintro e w2 ⟨rfl, hb2⟩
    obtain ⟨_, d0, d1, d2, _⟩ := C.out.below hb2
    clear c0
    go_wp2
    go_ret2
    exact ⟨by rw [ht.out]; rfl, bel_trans (bel_trans ((Below.refl _ _).alloc (Nat.le_refl _) _) hb) hb2⟩
  · by_cases h9 : k < 9
    · have ht := Lib.hid (textOf_9 (key := key) (v := v) h6 h9)
      go_enter Tryd.func14, Tryd.ntmps14
      go_wp2_with fail
      refine HC.out.mono ?_
      rintro e w1 ⟨rfl, hb⟩
      have c := (Stm.new w k key v 23).below hb
      have c0 := c.c0
      have C := Lib.hid c
      clear c
      go_wp2_with fail
      refine (wordOf_any k _ (by omega) (by omega)).mono ?_
      rintro e w2 ⟨rfl, hb2⟩
      obtain ⟨_, d0, d1, d2, _⟩ := C.out.below hb2
      clear c0
      go_wp2
      go_ret2
      exact ⟨by rw [ht.out, ← app_assoc]; rfl, bel_trans (bel_trans ((Below.refl _ _).alloc (Nat.le_refl _) _) hb) hb2⟩
    · have ht := Lib.hid (textOf_12 (key := key) (v := v) h9)
      go_enter Tryd.func14, Tryd.ntmps14
      go_wp2_with fail
      refine HC.out.mono ?_
      rintro e w1 ⟨rfl, hb⟩
      have c := (Stm.new w k key v 23).below hb
      have c0 := c.c0
      have C := Lib.hid c
      clear c
      go_wp2_with fail
      refine (wordOf_any k _ (by omega) (by omega)).mono ?_
      rintro e w2 ⟨rfl, hb2⟩
      obtain ⟨_, d0, d1, d2, _⟩ := C.out.below hb2
      clear c0
      go_wp2
      go_ret2
      exact ⟨by rw [ht.out, ← app_assoc, ← app_assoc]; rfl, bel_trans (bel_trans ((Below.refl _ _).alloc (Nat.le_refl _) _) hb) hb2⟩

end Go.Proofs.YtpbaobmegomfpaaDoor
