/-
  Texts of the proof, one behind the other: EqP, EqSD, WTopModes.
-/
import Derived.Test.YtpbaobmegomfpacGreatDoorM2
import Derived.Test.YtpbaobmegomfpacGreatDoorRows
import Derived.Deep.QuietTactic
import Derived.BigQuiet
import Derived.IntWalk
import Derived.WalkSmall
import Derived.Test.YtpbaobmegomfpacGreatDoorM38
import Derived.Test.YtpbaobmegomfpacGreatDoorM41
import Derived.Test.YtpbaobmegomfpacGreatDoorM43
import Derived.Test.YtpbaobmegomfpacGreatDoorM35
set_option linter.unusedVariables false
set_option linter.unusedSimpArgs false
set_option maxRecDepth 100000
open List renaming getElem_toArray → gTA, getElem_cons_zero → gCZ, getElem_cons_succ → gCS, setIfInBounds_toArray → sTA, set_cons_zero → sCZ, set_cons_succ → sCS
open Go.Lib renaming hid → jD
open Nat renaming le_refl → nL
namespace Go.Proofs.YtpbaobmegomfpacGreatDoor
open Go.RowKit
set_option maxHeartbeats 400000 in
theorem equalP_same (v v' : Value) (l : PL) (w : World) (B : Nat) (hl : Lst w B v l) (hl' : Lst w B v' l) :
  Calls Tryz.prog 25 #[v, v'] w fun e w' => e = .returned (.bool true) ∧ ∃ n, w' = w.drewN n := by
 obtain ⟨A, c, rfl, hc⟩ := hl.form
 obtain ⟨A', c', rfl, hc'⟩ := hl'.form
 have hby := hl.bytes
 have HL := jD hl
 have HL' := jD hl'
 have hne : ((l.length : Int) != (l.length : Int)) = false := by simp
 clear hl hl'
 go_enter Tryz.func25, Tryz.ntmps25
 go_wp2
 go_loopw [13] (fun i wr => ∃ k : Nat, k ≤ l.length ∧ i = .int .i64 k ∧ ∃ n, wr = w.drewN n) (fun i _ => l.length - (intOf i).toNat)
 case atStart => exact ⟨0, by omega, rfl, 0, rfl⟩
 case round =>
  obtain ⟨k, hk, rfl, n, rfl⟩ := hrel
  by_cases hlt : k < l.length
  ·obtain ⟨b, off, rfl, hb, c0, c1⟩ := HL.out.pt hlt
   obtain ⟨b', off', rfl, hb', c0', c1'⟩ := HL'.out.pt hlt
   go_wp2
   go_quiet (fail)
   go_wp2
   go_roundw
   case rel => exact ⟨k + 1, by omega, by go_num, n + nq, rfl⟩
   case measure => simp [intOf]; omega
  ·go_wp2
   go_ret
   exact ⟨rfl, _, rfl⟩
set_option maxHeartbeats 400000 in
theorem equalS_same (v v' : Value) (l : List ByteArray) (w : World) (B : Nat) (hl : TLst w B v l) (hl' : TLst w B v' l) :
  Calls Tryz.prog 37 #[v, v'] w fun e w' => e = .returned (.bool true) ∧ ∃ n, w' = w.drewN n := by
 obtain ⟨A, c, rfl, hc⟩ := hl.form
 obtain ⟨A', c', rfl, hc'⟩ := hl'.form
 have hby := hl.small
 have HL := jD hl
 have HL' := jD hl'
 have hne : ((l.length : Int) != (l.length : Int)) = false := by simp
 clear hl hl'
 go_enter Tryz.func37, Tryz.ntmps37
 go_wp2
 go_loopw [13] (fun i wr => ∃ k : Nat, k ≤ l.length ∧ i = .int .i64 k ∧ ∃ n, wr = w.drewN n) (fun i _ => l.length - (intOf i).toNat)
 case atStart => exact ⟨0, by omega, rfl, 0, rfl⟩
 case round =>
  obtain ⟨k, hk, rfl, n, rfl⟩ := hrel
  by_cases hlt : k < l.length
  ·obtain ⟨b, off, rfl, hb, c0⟩ := HL.out.pt hlt
   obtain ⟨b', off', rfl, hb', c0'⟩ := HL'.out.pt hlt
   go_wp2
   go_quiet (fail)
   go_wp2
   go_roundw
   case rel => exact ⟨k + 1, by omega, by go_num, n + nq, rfl⟩
   case measure => simp [intOf]; omega
  ·go_wp2
   go_ret
   exact ⟨rfl, _, rfl⟩
set_option maxHeartbeats 400000 in
theorem equalD_same (v v' : Value) (l : List Deed) (w : World) (B : Nat) (hl : DLst w B v l) (hl' : DLst w B v' l) :
  Calls Tryz.prog 28 #[v, v'] w fun e w' => e = .returned (.bool true) ∧ ∃ n, w' = w.drewN n := by
 obtain ⟨A, c, rfl, hc⟩ := hl.form
 obtain ⟨A', c', rfl, hc'⟩ := hl'.form
 have hby := hl.small
 have HL := jD hl
 have HL' := jD hl'
 have hne : ((l.length : Int) != (l.length : Int)) = false := by simp
 clear hl hl'
 go_enter Tryz.func28, Tryz.ntmps28
 go_wp2
 go_loopw [13] (fun i wr => ∃ k : Nat, k ≤ l.length ∧ i = .int .i64 k ∧ ∃ n, wr = w.drewN n) (fun i _ => l.length - (intOf i).toNat)
 case atStart => exact ⟨0, by omega, rfl, 0, rfl⟩
 case round =>
  obtain ⟨k, hk, rfl, n, rfl⟩ := hrel
  by_cases hlt : k < l.length
  ·obtain ⟨b, off, rfl, hb, c0, c1, c2, c3, c4, c5, c6⟩ := HL.out.pt hlt
   obtain ⟨b', off', rfl, hb', e0, e1, e2, e3, e4, e5, e6⟩ := HL'.out.pt hlt
   go_wp2
   go_quiet (fail)
   go_wp2
   go_roundw
   case rel => exact ⟨k + 1, by omega, by go_num, n + nq, rfl⟩
   case measure => simp [intOf]; omega
  ·go_wp2
   go_ret
   exact ⟨rfl, _, rfl⟩
set_option maxHeartbeats 1000000 in
theorem same_any (v1 v2 v3 u1 u2 u3 : Value) (sent : List ByteArray) (deeds : List Deed) (rows : PL) (w : World) (h : OutV w v1 v2 v3 sent deeds rows) (h' : OutV w u1 u2 u3 sent deeds rows) :
  Calls Tryz.prog 19 #[.agg #[v1, v2, v3], .agg #[u1, u2, u3]] w fun e w' => e = .returned (.bool true) ∧ Below w.heap.size w w' := by
 obtain ⟨A1, c1, rfl, _⟩ := h.s.form
 obtain ⟨A2, c2, rfl, _⟩ := h.d.form
 obtain ⟨A3, c3, rfl, _⟩ := h.r.form
 obtain ⟨E1, e1, rfl, _⟩ := h'.s.form
 obtain ⟨E2, e2, rfl, _⟩ := h'.d.form
 obtain ⟨E3, e3, rfl, _⟩ := h'.r.form
 have nn := ((Below.refl w.heap.size w).alloc (nL _) (.cells #[.slice A1 sent.length c1, .slice A2 deeds.length c2, .slice A3 rows.length c3] 27)).alloc (by simp) (.cells #[.slice E1 sent.length e1, .slice E2 deeds.length e2, .slice E3 rows.length e3] 27)
 have HN := jD nn
 have H1 := jD (h.step nn)
 have H2 := jD (h'.step nn)
 clear h h' nn
 go_enter Tryz.func19, Tryz.ntmps19
 go_wp2_with fail
 refine (equalS_same _ _ sent _ _ H1.out.s H2.out.s).mono ?_
 rintro e w1 ⟨rfl, n1, rfl⟩
 go_wp2_with fail
 refine (equalD_same _ _ deeds _ _ (H1.out.step (below_drewN (Below.refl _ _) n1)).d (H2.out.step (below_drewN (Below.refl _ _) n1)).d).mono ?_
 rintro e w1 ⟨rfl, n2, rfl⟩
 go_wp2_with fail
 refine (equalP_same _ _ rows _ _ (H1.out.step (below_drewN (Below.refl _ _) _)).r (H2.out.step (below_drewN (Below.refl _ _) _)).r).mono ?_
 rintro e w1 ⟨rfl, n3, rfl⟩
 go_wp2
 go_ret
 exact ⟨rfl, below_drewN HN.out _⟩
theorem topModes.laidFacts {W : World} (h : laidMetH Tryz.prog Rows.topModesRow.laid W) : Tabs W W.heap.size :=
 tabs_of (words_of h (by simp [Rows.topModesRow, Rows.laid_tillerman_say_words, List.range, List.range.loop, wordL])) (leads_of h (by simp [Rows.topModesRow, Rows.laid_tillerman_say_leads, List.range, List.range.loop, leadL]))
theorem top_modes_pool {l : List Act} (hl : actsE l = 0) (hc : ∀ a ∈ l, a.c < 4) : (ranM 1 4 l).sent = (ranM 2 4 l).sent ∧ (ranM 1 4 l).deeds = (ranM 2 4 l).deeds ∧ (ranM 1 4 l).e.w.rows = (ranM 2 4 l).e.w.rows := by
 have h1 := pool_house (n := 4) (by omega) 1 hl
 have h2 := pool_house (n := 4) (by omega) 2 hl
 have hd := top_modes hl hc
 have e1 : _ = _ := congrArg D.sent hd
 have e2 : _ = _ := congrArg D.deeds hd
 have e3 : _ = _ := congrArg (fun d : D => d.w.rows) hd
 exact ⟨h1.sent.trans (e1.trans h2.sent.symm), h1.deeds.trans (e2.trans h2.deeds.symm), h1.rows.trans (e3.trans h2.rows.symm)⟩
set_option maxHeartbeats 2000000 in
theorem walk_TopModes (v : Value) (l : List Raw) (w : World) (hl : RLst w w.heap.size v l) (hT : Tabs w w.heap.size) :
  Calls Tryz.prog 5 #[v] w fun e w' => e = .returned (.bool true) ∧ Below w.heap.size w w' := by
 have hae := actsR_E (l := l) (most := 60) (n := 4) (by omega) (by omega)
 have hE1 := run_E (mode := 1) (s := 4) (by decide) (Nat.le_trans (actsR_len (l := l) (most := 60) (n := 4)) (by omega)) hae
 have hE2 := run_E (mode := 2) (s := 4) (by decide) (Nat.le_trans (actsR_len (l := l) (most := 60) (n := 4)) (by omega)) hae
 have hpp := top_modes_pool hae (fun a ha => (actsR_c (by omega) a ha).2)
 have HA := jD (acts_any v l 60 4 w hl hT.wo (by omega) (by omega) (by omega))
 have HT := jD hT
 have HAL := jD (fun (out : Value) (wc : World) (h : ActsAt w wc out (actsR l 60 4)) => h.alst (Nat.le_trans actsR_len (by omega)) (actsR_size (n := 4)))
 have HP1 := jD (fun (out : Value) (wc : World) (h : ALst wc wc.heap.size out (actsR l 60 4)) (hb : Below w.heap.size w wc) => playedT_any 1 4 out _ wc h ((hT.below hb).up hb.size) hE1)
 have HP2 := jD (fun (out : Value) (wc : World) (h : ALst wc wc.heap.size out (actsR l 60 4)) (hb : Below w.heap.size w wc) => playedT_any 2 4 out _ wc h ((hT.below hb).up hb.size) hE2)
 obtain ⟨E, e, rfl, he⟩ := hl.form
 simp only [show (4 : Int).toNat = 4 from rfl] at HP1 HP2
 generalize ranM 1 4 (actsR l 60 4) = m1 at *
 generalize ranM 2 4 (actsR l 60 4) = m2 at *
 simp only [playedPost_congr hpp] at HP2
 generalize actsR l 60 4 = al at *
 clear hae hE1 hE2 hpp hl hT
 go_enter Tryz.func5, Tryz.ntmps5
 go_wp2_with fail
 refine HA.out.mono ?_
 rintro e1 w1 ⟨out, rfl, hA⟩
 have ha := HAL.out _ _ hA
 have HAA := jD ha
 have HB1 := jD hA.bel
 obtain ⟨A0, c0, rfl, _⟩ := ha.form
 clear hA ha HAL HA
 go_wp2_with fail
 refine (HP1.out _ _ HAA.out HB1.out).mono ?_
 rintro e2 w2 ⟨v1, v2, v3, rfl, ho, hb2⟩
 obtain ⟨A1, c1, rfl, _⟩ := ho.s.form
 obtain ⟨A2, c2, rfl, _⟩ := ho.d.form
 obtain ⟨A3, c3, rfl, _⟩ := ho.r.form
 have n2 := (Below.refl w2.heap.size w2).alloc (nL _) (.cells #[.slice A1 m1.sent.length c1, .slice A2 m1.deeds.length c2, .slice A3 m1.e.w.rows.length c3] 27)
 have X2 := RowTo.whole w2 #[.slice A1 m1.sent.length c1, .slice A2 m1.deeds.length c2, .slice A3 m1.e.w.rows.length c3] 27
 have H2 := jD (And.intro (ho.step n2) (And.intro X2 (bel_add' (bel_trans HB1.out hb2) n2 (bel_trans HB1.out hb2).size)))
 have HAA2 := jD ((HAA.out.step hb2).step n2)
 clear ho hb2 n2 X2 HAA
 go_wp2_with fail
 refine (HP2.out _ _ HAA2.out H2.out.2.2).mono ?_
 rintro e3 w3 ⟨u1, u2, u3, rfl, ho, hb3⟩
 obtain ⟨E1, e1, rfl, _⟩ := ho.s.form
 obtain ⟨E2, e2, rfl, _⟩ := ho.d.form
 obtain ⟨E3, e3, rfl, _⟩ := ho.r.form
 have n3 := (Below.refl w3.heap.size w3).alloc (nL _) (.cells #[.slice E1 m1.sent.length e1, .slice E2 m1.deeds.length e2, .slice E3 m1.e.w.rows.length e3] 27)
 have X3 := RowTo.whole w3 #[.slice E1 m1.sent.length e1, .slice E2 m1.deeds.length e2, .slice E3 m1.e.w.rows.length e3] 27
 have hX2 := (H2.out.2.1.below hb3 H2.out.2.1.lt).below n3 (H2.out.2.1.below hb3 H2.out.2.1.lt).lt
 obtain ⟨r0, r1, r2⟩ := cells3 hX2
 have hXl := hX2.lt
 have HS := jD (same_any _ _ _ _ _ _ _ _ _ _ ((H2.out.1.step hb3).step n3) (ho.step n3))
 have HB3 := jD (bel_add' (bel_trans H2.out.2.2 hb3) n3 (bel_trans H2.out.2.2 hb3).size)
 obtain ⟨x0, x1, x2⟩ := cells3 X3
 clear ho hb3 n3 X3 hX2 H2
 go_wp2_with fail
 refine HS.out.mono ?_
 rintro e4 w4 ⟨rfl, hb4⟩
 have HB4 := jD (bel_trans HB3.out hb4)
 clear hb4
 go_wp2
 go_ret
 exact ⟨rfl, HB4.out⟩
end Go.Proofs.YtpbaobmegomfpacGreatDoor
