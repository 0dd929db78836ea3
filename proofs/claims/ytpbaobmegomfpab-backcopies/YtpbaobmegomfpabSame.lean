/-
  Walks of the law's comparisons: samePairs, sameWorld, where both sides read as the same.
-/
import Derived.Test.YtpbaobmegomfpabWld
import Derived.Test.YtpbaobmegomfpabRows
import Derived.Deep.QuietTactic
import Derived.BigQuiet
import Derived.IntWalk
import Derived.WalkSmall
namespace Go.Proofs.Ytpbaobmegomfpab
open Go.RowKit
set_option linter.unusedVariables false
set_option maxRecDepth 100000

set_option maxHeartbeats 400000 in
theorem samePairs_same (v v' : Value) (l : PL) (w : World) (B : Nat) (hl : Lst w B v l) (hl' : Lst w B v' l) :
    Calls Try.prog 10 #[v, v'] w fun e w' => e = .returned (.bool true) ∧ ∃ n, w' = w.drewN n := by
  obtain ⟨A, c, rfl, hc⟩ := hl.form
  obtain ⟨A', c', rfl, hc'⟩ := hl'.form
  have hby := hl.bytes
  have HL := Lib.hid hl
  have HL' := Lib.hid hl'
  have hne : ((l.length : Int) != (l.length : Int)) = false := by simp
  clear hl hl'
  go_enter Try.func10, Try.ntmps10
  go_wp2
  go_loopw [5] (fun i wr => ∃ k : Nat, k ≤ l.length ∧ i = .int .i64 k ∧ ∃ n, wr = w.drewN n) (fun i _ => l.length - (intOf i).toNat)
  case atStart => exact ⟨0, by omega, rfl, 0, rfl⟩
  case round =>
    obtain ⟨k, hk, rfl, n, rfl⟩ := hrel
    by_cases hlt : k < l.length
    · obtain ⟨b, off, rfl, hb, c0, c1⟩ := HL.out.pt hlt
      obtain ⟨b', off', rfl, hb', c0', c1'⟩ := HL'.out.pt hlt
      go_wp2
      go_quiet (fail)
      go_wp2
      go_roundw
      case rel => exact ⟨k + 1, by omega, by go_num, n + nq, rfl⟩
      case measure => simp [intOf]; omega
    · go_wp2
      go_ret
      exact ⟨rfl, _, rfl⟩

theorem bel_addD {B n : Nat} {a b : World} (h : Below B a b) : Below B a (b.drewN n) := below_drewN h n
def SameRel (w : World) (r s r' s' : Value) (wr : World) : Prop :=
  RowTo wr w.heap.size 25 2 [r, s] ∧ RowTo wr (w.heap.size + 1) 25 2 [r', s'] ∧ Below w.heap.size w wr

set_option maxHeartbeats 2000000 in
theorem sameWorld_same (r s r' s' : Value) (W : Wd) (w : World) (hW : Wld w w.heap.size r s W) (hW' : Wld w w.heap.size r' s' W) :
    Calls Try.prog 6 #[.agg #[r, s], .agg #[r', s']] w fun e w' => e = .returned (.bool true) ∧ Below w.heap.size w w' := by
  obtain ⟨hr, hs⟩ := hW
  obtain ⟨hr', hs'⟩ := hW'
  obtain ⟨A, c, rfl, hc⟩ := hs.form
  obtain ⟨A', c', rfl, hc'⟩ := hs'.form
  obtain ⟨D, d, rfl, hd⟩ := hr.form
  obtain ⟨D', d', rfl, hd'⟩ := hr'.form
  have hby := hs.bytes
  have HS := Lib.hid hs
  have HS' := Lib.hid hs'
  have HR := Lib.hid hr
  have HR' := Lib.hid hr'
  have hne : ((W.ss.length : Int) != (W.ss.length : Int)) = false := by simp
  clear hs hs' hr hr'
  go_enter Try.func6, Try.ntmps6
  go_wp2_with fail
  have bel0 : Below w.heap.size w ((w.alloc (.cells #[.slice D W.rows.length d, .slice A W.ss.length c] 25)).alloc (.cells #[.slice D' W.rows.length d', .slice A' W.ss.length c'] 25)) := ((Below.refl _ _).alloc (Nat.le_refl _) _).alloc (by simp) _
  refine (samePairs_same _ _ W.rows _ _ (HR.out.step bel0) (HR'.out.step bel0)).mono ?_
  rintro e w1 ⟨rfl, n, rfl⟩
  go_wp2
  go_loopw [5] (fun i wr => ∃ k : Nat, k ≤ W.ss.length ∧ i = .int .i64 k ∧ SameRel w (.slice D W.rows.length d) (.slice A W.ss.length c) (.slice D' W.rows.length d') (.slice A' W.ss.length c') wr) (fun i _ => W.ss.length - (intOf i).toNat)
  case atStart =>
    refine ⟨0, by omega, rfl, ?_, ?_, below_drewN bel0 n⟩
    · exact ((RowTo.whole w #[.slice D W.rows.length d, .slice A W.ss.length c] 25).alloc _).drewN n
    · have := (RowTo.whole (w.alloc (.cells #[.slice D W.rows.length d, .slice A W.ss.length c] 25)) #[.slice D' W.rows.length d', .slice A' W.ss.length c'] 25).drewN n
      simpa using this
  case round =>
    clear bel0
    obtain ⟨k, hk, rfl, hb1, hb2, bel⟩ := hrel
    have x0 := hb1.cell (j := 0) (by simp)
    have x1 := hb1.cell (j := 1) (by simp)
    have y0 := hb2.cell (j := 0) (by simp)
    have y1 := hb2.cell (j := 1) (by simp)
    simp only [List.getElem_cons_zero, List.getElem_cons_succ] at x0 x1 y0 y1
    by_cases hlt : k < W.ss.length
    · obtain ⟨b, off, v1, v2, v3, v4, rfl, hb, hses⟩ := HS.out.pt hlt
      obtain ⟨b', off', v1', v2', v3', v4', rfl, hb', hses'⟩ := HS'.out.pt hlt
      generalize hsk : W.ss[k] = s at *
      have HK := Lib.hid hsk
      clear hsk
      obtain ⟨d0, d1, d2, d3, d4, l1, l2, l3, l4⟩ := hses.keep (w' := wr) hb (Nat.le_refl _) fun p hp => bel.cell hp
      obtain ⟨d0', d1', d2', d3', d4', l1', l2', l3', l4'⟩ := hses'.keep (w' := wr) hb' (Nat.le_refl _) fun p hp => bel.cell hp
      obtain ⟨A1, c1, rfl, _⟩ := l1.form
      obtain ⟨A2, c2, rfl, _⟩ := l2.form
      obtain ⟨A3, c3, rfl, _⟩ := l3.form
      obtain ⟨A4, c4, rfl, _⟩ := l4.form
      obtain ⟨A1', c1', rfl, _⟩ := l1'.form
      obtain ⟨A2', c2', rfl, _⟩ := l2'.form
      obtain ⟨A3', c3', rfl, _⟩ := l3'.form
      obtain ⟨A4', c4', rfl, _⟩ := l4'.form
      have H1 := Lib.hid hses
      have H2 := Lib.hid hses'
      have X1 := Lib.hid hb1
      have X2 := Lib.hid hb2
      have HB := Lib.hid bel
      have hst : (s.st != s.st) = false := by simp
      have hlt1 := hb1.lt
      have hlt2 := hb2.lt
      have hbw : b < wr.heap.size := Nat.lt_of_lt_of_le hb bel.size
      have hbw' : b' < wr.heap.size := Nat.lt_of_lt_of_le hb' bel.size
      clear hses hses' l1 l2 l3 l4 l1' l2' l3' l4' hb1 hb2 bel
      go_wp2_with fail
      have B0 := Lib.hid ((HB.out.alloc HB.out.size (.cells #[.int .i64 s.st, .slice A1 s.set.length c1, .slice A2 s.prep.length c2, .slice A3 s.sav.length c3, .slice A4 s.wr.length c4] 35)).alloc (by have := HB.out.size; simp; omega) (.cells #[.int .i64 s.st, .slice A1' s.set.length c1', .slice A2' s.prep.length c2', .slice A3' s.sav.length c3', .slice A4' s.wr.length c4'] 35))
      refine (samePairs_same _ _ s.set _ _ (H1.out.l1.step B0.out) (H2.out.l1.step B0.out)).mono ?_
      rintro e w1 ⟨rfl, n1, rfl⟩
      go_wp2_with fail
      refine (samePairs_same _ _ s.prep _ _ (H1.out.l2.step (below_drewN B0.out _)) (H2.out.l2.step (below_drewN B0.out _))).mono ?_
      rintro e w1 ⟨rfl, n2, rfl⟩
      go_wp2_with fail
      refine (samePairs_same _ _ s.sav _ _ (H1.out.l3.step (below_drewN B0.out _)) (H2.out.l3.step (below_drewN B0.out _))).mono ?_
      rintro e w1 ⟨rfl, n3, rfl⟩
      go_wp2_with fail
      refine (samePairs_same _ _ s.wr _ _ (H1.out.l4.step (below_drewN B0.out _)) (H2.out.l4.step (below_drewN B0.out _))).mono ?_
      rintro e w1 ⟨rfl, n4, rfl⟩
      go_wp2
      go_roundw
      case rel => exact ⟨k + 1, by omega, by go_num, ((X1.out.alloc _).alloc _).drewN _, ((X2.out.alloc _).alloc _).drewN _, below_drewN B0.out _⟩
      case measure => simp [intOf]; omega
    · go_wp2
      go_ret
      exact ⟨rfl, bel⟩
end Go.Proofs.Ytpbaobmegomfpab
