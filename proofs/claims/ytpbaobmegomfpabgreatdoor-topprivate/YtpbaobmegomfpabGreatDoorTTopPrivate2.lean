/-
  Texts of the proof, one behind the other: PActs, DelA, PStay, EqP, Laid, LaidWords, LaidLeads, TabsL.
-/
import Derived.Test.YtpbaobmegomfpabGreatDoorTTopPrivate1
import Derived.Test.YtpbaobmegomfpabGreatDoorM26
import Derived.Test.YtpbaobmegomfpabGreatDoorM21
import Derived.Test.YtpbaobmegomfpabGreatDoorM20
import Derived.Deep.CutRange
import Derived.Deep.CutBlock
import Derived.Test.YtpbaobmegomfpabGreatDoorRows
import Derived.WalkKit
import Derived.WalkSpells
import Derived.WalkLawsBesides
import Derived.Lib.Hide
import Derived.IntWalk
import Derived.WalkSmall
import Derived.Deep.Upon
import Derived.Test.YtpbaobmegomfpabGreatDoorM37
import Derived.Test.YtpbaobmegomfpabGreatDoorM2
import Derived.Deep.QuietTactic
import Derived.BigQuiet
import Derived.ProofKit
import Derived.Lib.LaidTab
import Derived.Test.YtpbaobmegomfpabGreatDoorM15
import Derived.Test.YtpbaobmegomfpabGreatDoorM27
import Derived.Test.YtpbaobmegomfpabGreatDoorM28
import Derived.Test.YtpbaobmegomfpabGreatDoorM1
set_option linter.unusedVariables false
set_option linter.unusedSimpArgs false
set_option maxRecDepth 100000
open List renaming getElem_toArray → gTA, getElem_cons_zero → gCZ, getElem_cons_succ → gCS, setIfInBounds_toArray → sTA, set_cons_zero → sCZ, set_cons_succ → sCS
open Go.Lib renaming hid → jD
open Nat renaming le_refl → nL
namespace Go.Proofs.YtpbaobmegomfpabGreatDoor
open Go.RowKit
theorem tdiv24 {n : Int} (h1 : -9223372036854775808 ≤ n) (h2 : n ≤ 9223372036854775807) : -9223372036854775808 ≤ n.tdiv 24 ∧ n.tdiv 24 ≤ 9223372036854775807 := by
 rcases Int.lt_or_le n 0 with h | h
 ·obtain ⟨a, rfl⟩ : ∃ a, n = -a := ⟨-n, by omega⟩
  rw [Int.neg_tdiv, Int.tdiv_eq_ediv_of_nonneg (by omega)]
  omega
 ·rw [Int.tdiv_eq_ediv_of_nonneg h]
  omega
theorem wrap64_id {n : Int} (h : -9223372036854775808 ≤ n ∧ n ≤ 9223372036854775807) : wrap64 n = n := by unfold wrap64; omega
theorem odd_get : ∀ (x : Nat) (h : x < [Value.string ⟨#[]⟩, .string ⟨#[119, 104, 97, 116]⟩, .string ⟨#[103, 101, 116]⟩, .string ⟨#[115, 101, 116, 32, 97]⟩, .string ⟨#[98, 101, 103, 105, 110, 32, 120]⟩].length), [Value.string ⟨#[]⟩, .string ⟨#[119, 104, 97, 116]⟩, .string ⟨#[103, 101, 116]⟩, .string ⟨#[115, 101, 116, 32, 97]⟩, .string ⟨#[98, 101, 103, 105, 110, 32, 120]⟩][x] = .string (oddT x)
 | 0, _ => rfl
 | 1, _ => rfl
 | 2, _ => rfl
 | 3, _ => rfl
 | 4, _ => rfl
theorem cells4 {w : World} {g t n : Nat} {a b c d : Value} (h : RowTo w g t n [a, b, c, d]) : w.cell? ⟨g, 0, none⟩ = some a ∧ w.cell? ⟨g, 1, none⟩ = some b ∧ w.cell? ⟨g, 2, none⟩ = some c ∧ w.cell? ⟨g, 3, none⟩ = some d := ⟨h.cell (j := 0) (by simp), h.cell (j := 1) (by simp), h.cell (j := 2) (by simp), h.cell (j := 3) (by simp)⟩
theorem act_row : (Tryz.prog.info? 54).map (fun i => (i.zero, i.size, i.bytes)) = some (some (.agg #[.int .i64 0, .int .i64 0, .string ⟨#[]⟩]), 3, 32) := by kernel_rfl
def actV (a : Act) : List Value := [.int .i64 a.kind, .int .i64 a.c, .string a.data]
structure ActsAt (w wr : World) (out : Value) (al : List Act) : Prop where
 sl : ∃ g, Sl wr 54 3 out g al.length (al.map actV).flatten ∧ ∀ b, g = some b → w.heap.size ≤ b
 bel : Below w.heap.size w wr
set_option maxHeartbeats 8000000 in
theorem acts_any (v : Value) (l : List Raw) (most n : Nat) (w : World) (hl : RLst w w.heap.size v l) (hWo : Words w) (hn : 0 < n) (hn6 : n ≤ 6) (hm : most ≤ 1000) :
  Calls Tryz.prog 40 #[v, .int .i64 most, .int .i64 n] w fun e w' => ∃ out, e = .returned out ∧ ActsAt w w' out (actsR l most n) := by
 obtain ⟨E, e, rfl, he⟩ := hl.form
 have hby := hl.bytes
 have HL := jD hl
 have HWo := jD hWo
 clear hl hWo
 go_enter Tryz.func40, Tryz.ntmps40
 go_wp2
 go_loopw [7, 8] (fun o j wr => ∃ k : Nat, k ≤ l.length ∧ k ≤ most ∧ j = .int .i64 k ∧ Hid (ActsAt w wr o (actsR l k n))) (fun _ j _ => l.length - (intOf j).toNat)
 case atStart => exact ⟨0, by omega, by omega, rfl, ⟨none, Sl.nil_ _ _ _, fun _ h => by cases h⟩, Below.refl _ _⟩
 case round =>
  obtain ⟨k, hk, hkm, rfl, HR⟩ := hrel
  by_cases hlt : k < l.length ∧ k < most
  ·obtain ⟨hlt, hltm⟩ := hlt
   have HS1 := jD (actsR_take (n := n) hlt hltm)
   have hwf := HL.out.wf l[k] (List.getElem_mem hlt)
   obtain ⟨b, off, rfl, hb, l0, l1, l2, l3⟩ := HL.out.pt hlt
   generalize hx : l[k] = x at *
   clear hx
   have bl := HR.out.bel
   have d0 := (bl.cell (p := ⟨b, off + k * 4, none⟩) hb).trans l0
   have d1 := (bl.cell (p := ⟨b, off + k * 4 + 1, none⟩) hb).trans l1
   have d2 := (bl.cell (p := ⟨b, off + k * 4 + 2, none⟩) hb).trans l2
   have d3 := (bl.cell (p := ⟨b, off + k * 4 + 3, none⟩) hb).trans l3
   have hbw : b < wr.heap.size := Nat.lt_of_lt_of_le hb bl.size
   obtain ⟨w1, w2, w3, w4⟩ := hwf
   have hcb := i64_bd w4
   have hkb := i64_bd w1
   have hab := i64_bd w2
   have HP := jD (fun wc => picked_any x.c n wc hcb.1 hcb.2 (by omega) (by omega))
   have HPC0 := jD (pickI_bd x.c (m := n) (by omega))
   have HAB := jD hab
   have HBW := jD bl
   have HT2 : Hid (∀ wc : World, Calls Tryz.prog 11 #[.agg #[.int .i64 x.kd, .int .i64 x.a, .int .i64 x.b, .int .i64 x.c]] wc fun e w' => e = .returned (.agg #[.int .i64 (reqR x).k, .string (reqR x).key, .string (reqR x).val]) ∧ Below wc.heap.size wc w') := jD fun wc => stmt_any x.kd x.a x.b x.c wc w1 w2 w3 w4
   have HB2 : Hid (∀ wc : World, Calls Tryz.prog 11 #[.agg #[.int .i64 (wrap64 (x.kd + 1)), .int .i64 (wrap64 (x.a + 1)), .int .i64 x.b, .int .i64 x.c]] wc fun e w' => e = .returned (.agg #[.int .i64 (reqR (bump x)).k, .string (reqR (bump x)).key, .string (reqR (bump x)).val]) ∧ Below wc.heap.size wc w') := jD fun wc => stmt_any _ _ x.b x.c wc (wrap64_wf _) (wrap64_wf _) w3 w4
   have HMS := jD (fun (wc : World) (hb : Below w.heap.size w wc) => message_any (reqR x) (reqR_ok x) wc (HWo.out.below hb))
   have HMB := jD (fun (wc : World) (hb : Below w.heap.size w wc) => message_any (reqR (bump x)) (reqR_ok (bump x)) wc (HWo.out.below hb))
   have hq24 : -9223372036854775808 ≤ x.kd.tdiv 24 ∧ x.kd.tdiv 24 ≤ 9223372036854775807 := tdiv24 hkb.1 hkb.2
   have hwb := pickI_bd (x.kd.tdiv 24) (m := 20) (by omega)
   obtain ⟨wy, hwy⟩ : ∃ wy : Nat, pickI (x.kd.tdiv 24) 20 = wy := ⟨(pickI (x.kd.tdiv 24) 20).toNat, by omega⟩
   have HWR := jD (show wayR x = wy by unfold wayR; rw [hwy]; rfl)
   have HWC := jD (show wy = 0 ∨ wy = 1 ∨ wy = 2 ∨ (3 ≤ wy ∧ wy < 6) ∨ wy = 6 ∨ 6 < wy by omega)
   have hwy2 := fun wc => picked_any (wrap64 (x.kd.tdiv 24)) 20 wc (i64_bd (wrap64_wf _)).1 (i64_bd (wrap64_wf _)).2 (by omega) (by omega)
   rw [show pickI (wrap64 (x.kd.tdiv 24)) 20 = wy by rw [wrap64_id hq24]; exact hwy] at hwy2
   have HWY := jD hwy2
   have HM1 := jD (And.intro (rawM_size x) (rawM_two x))
   have HM2 := jD (rawM_size (bump x))
   obtain ⟨m1, HQ1⟩ : ∃ m1, Hid (rawM x = m1) := ⟨_, jD rfl⟩
   obtain ⟨m2, HQ2⟩ : ∃ m2, Hid (rawM (bump x) = m2) := ⟨_, jD rfl⟩
   have hq1 : msg 81 (msgR (reqR x)) = m1 := HQ1.out
   have hq2 : msg 81 (msgR (reqR (bump x))) = m2 := HQ2.out
   rw [hq1] at HMS
   rw [hq2] at HMB
   rw [HQ1.out] at HM1
   rw [HQ2.out] at HM2
   obtain ⟨qk, HQK⟩ : ∃ qk, Hid ((reqR x).k = qk) := ⟨_, jD rfl⟩
   obtain ⟨qe, HQE⟩ : ∃ qe, Hid ((reqR x).key = qe) := ⟨_, jD rfl⟩
   obtain ⟨qv, HQV⟩ : ∃ qv, Hid ((reqR x).val = qv) := ⟨_, jD rfl⟩
   obtain ⟨uk, HUK⟩ : ∃ qk, Hid ((reqR (bump x)).k = qk) := ⟨_, jD rfl⟩
   obtain ⟨ue, HUE⟩ : ∃ qe, Hid ((reqR (bump x)).key = qe) := ⟨_, jD rfl⟩
   obtain ⟨uv, HUV⟩ : ∃ qv, Hid ((reqR (bump x)).val = qv) := ⟨_, jD rfl⟩
   obtain ⟨pc, HPC⟩ : ∃ pc, Hid (pickI x.c n = pc) := ⟨_, jD rfl⟩
   rw [HQK.out, HQE.out, HQV.out] at HMS HT2
   rw [HUK.out, HUE.out, HUV.out] at HMB HB2
   rw [HPC.out] at HP HPC0
   have n1 := (Below.refl wr.heap.size wr).alloc (nL _) (.cells #[.int .i64 x.kd, .int .i64 x.a, .int .i64 x.b, .int .i64 x.c] 44)
   have HB0 := jD (bel_add' bl n1 bl.size)
   have X0 := RowTo.whole wr #[.int .i64 x.kd, .int .i64 x.a, .int .i64 x.b, .int .i64 x.c] 44
   clear bl l0 l1 l2 l3 w1 w2 w3 w4 hcb hkb hq24 hwb hwy hwy2 hq1 hq2 HQK HQE HQV HUK HUE HUV
   go_wp2_with fail
   have x0 := X0.cell (j := 0) (by simp)
   have x1 := X0.cell (j := 1) (by simp)
   have x2 := X0.cell (j := 2) (by simp)
   have x3 := X0.cell (j := 3) (by simp)
   simp only [gCZ, gCS] at x0 x1 x2 x3
   have hXl := X0.lt
   refine wp_region_z 9 (fun wx => wx.cell? ⟨wr.heap.size, 0, none⟩ = some (.int .i64 x.kd) ∧ wx.cell? ⟨wr.heap.size, 1, none⟩ = some (.int .i64 x.a) ∧ wx.cell? ⟨wr.heap.size, 2, none⟩ = some (.int .i64 x.b) ∧ wx.cell? ⟨wr.heap.size, 3, none⟩ = some (.int .i64 x.c)) (by kernel_rfl) (show (wr.alloc (.cells #[.int .i64 x.kd, .int .i64 x.a, .int .i64 x.b, .int .i64 x.c] 44)).drew.cell? ⟨wr.heap.size, 0, none⟩ = some (.int .i64 x.kd) ∧ (wr.alloc (.cells #[.int .i64 x.kd, .int .i64 x.a, .int .i64 x.b, .int .i64 x.c] 44)).drew.cell? ⟨wr.heap.size, 1, none⟩ = some (.int .i64 x.a) ∧ (wr.alloc (.cells #[.int .i64 x.kd, .int .i64 x.a, .int .i64 x.b, .int .i64 x.c] 44)).drew.cell? ⟨wr.heap.size, 2, none⟩ = some (.int .i64 x.b) ∧ (wr.alloc (.cells #[.int .i64 x.kd, .int .i64 x.a, .int .i64 x.b, .int .i64 x.c] 44)).drew.cell? ⟨wr.heap.size, 3, none⟩ = some (.int .i64 x.c) from ⟨x0, x1, x2, x3⟩) (fun hS => ?_)
   refine tkE [(0, []), (1, []), (2, []), (4, [])] ?_
   iterate 4
    refine tkS (v := ?_) hS ?_ ?_
    rotate_left
    ·(intro w hSw; (try dsimp only at hSw); (try simp only [gTA, gCZ, gCS]); go_simp; try with_reducible rfl)
    (try simp only [gTA, gCZ, gCS, Act.put, sTA, sCZ, sCS])
   refine tkF ?_
   refine gridC (C := 4) (cop := fun c => match c with | 0 => 3 | 1 => 5 | 2 => 6 | _ => 7) (dst := fun c => match c with | 0 => 29 | 1 => 31 | 2 => 32 | _ => 33) (vals := fun c => match c with | 0 => .int .i64 pc | 1 => .agg #[.int .i64 qk, .string qe, .string qv] | 2 => .string m1 | _ => .agg #[.int .i64 1, .int .i64 pc, .string m1]) (p := 8) (dp := 10) (tp := 54) (zp := #[.int .i64 0, .int .i64 0, .string ⟨#[]⟩]) (L := fun c x => #[true, true, true, decide (0 < c), true, decide (1 < c), decide (2 < c), decide (3 < c), x, false]) (R := fun wc => Below (wr.alloc (.cells #[.int .i64 x.kd, .int .i64 x.a, .int .i64 x.b, .int .i64 x.c] 44)).heap.size (wr.alloc (.cells #[.int .i64 x.kd, .int .i64 x.a, .int .i64 x.b, .int .i64 x.c] 44)) wc) ⟨_, rfl, rfl, rfl, fun ev w => (by go_simp; rfl)⟩ ?rdy (by kernel_rfl) ?sc ?sp ?dn 1 (wr.alloc (.cells #[.int .i64 x.kd, .int .i64 x.a, .int .i64 x.b, .int .i64 x.c] 44)).heap.size (fun w1 w2 h1 h2 => bel_trans h1 h2) ?hS (fun w1 h1 => h1.size) ?st ?fin _ (Below.refl _ _).drew
   case rdy => (intro c y hc; rcases c with _ | _ | _ | _ | c; all_goals first | (exfalso; omega) | (cases y <;> kernel_rfl))
   case sc => (intro c y hc; rcases c with _ | _ | _ | _ | c; all_goals first | rfl | (exfalso; omega))
   case sp => (intro c hc; rcases c with _ | _ | _ | _ | _ | c; all_goals first | rfl | (exfalso; omega))
   case dn => (intro c hc; rcases c with _ | _ | _ | _ | c; all_goals first | decide | (exfalso; omega))
   case hS => (intro w1 h1; exact ⟨(h1.cell (p := ⟨wr.heap.size, 0, none⟩) hXl).trans x0, (h1.cell (p := ⟨wr.heap.size, 1, none⟩) hXl).trans x1, (h1.cell (p := ⟨wr.heap.size, 2, none⟩) hXl).trans x2, (h1.cell (p := ⟨wr.heap.size, 3, none⟩) hXl).trans x3⟩)
   case st =>
    intro c hc
    rcases c with _ | _ | _ | _ | c
    ·refine ⟨_, rfl, rfl, rfl, fun y wc hR => .inl ⟨14, #[.int .i64 x.c, .int .i64 n], ?_, ?_⟩⟩
     ·cases y <;> ((try simp only [fr1, putN, pt, gTA, gCZ, gCS, Go.Act.put, sTA, sCZ, sCS]); go_simp; try rfl)
     ·exact (HP.out wc).mono fun e w' h => ⟨h.1, by rw [← h.2]; exact Below.refl _ _⟩
    ·refine ⟨_, rfl, rfl, rfl, fun y wc hR => .inl ⟨11, #[.agg #[.int .i64 x.kd, .int .i64 x.a, .int .i64 x.b, .int .i64 x.c]], ?_, HT2.out wc⟩⟩
     cases y <;> ((try simp only [fr1, putN, pt, gTA, gCZ, gCS, Go.Act.put, sTA, sCZ, sCS]); go_simp; try rfl)
    ·refine ⟨_, rfl, rfl, rfl, fun y wc hR => .inl ⟨15, #[.agg #[.int .i64 qk, .string qe, .string qv]], ?_, HMS.out wc (bel_add' HB0.out hR HB0.out.size)⟩⟩
     cases y <;> ((try simp only [fr1, putN, pt, gTA, gCZ, gCS, Go.Act.put, sTA, sCZ, sCS]); go_simp; try rfl)
    ·refine ⟨_, rfl, rfl, rfl, fun y wc hR => .inr ?_⟩
     cases y <;> ((try simp only [fr1, putN, pt, gTA, gCZ, gCS, Go.Act.put, sTA, sCZ, sCS]); go_simp; try rfl)
    ·exfalso; omega
   case fin =>
    intro w6 Y hb6 hz6
    have hY0 := zs_row hz6
    have hYl := hY0.lt
    have hYX := (hz6 Y rfl).1
    obtain ⟨y0, y1, y2⟩ := cells3 hY0
    have f0 := hY0.frozen 0
    have f1 := hY0.frozen 1
    have f2 := hY0.frozen 2
    have hYX' : Y ≠ wr.heap.size := by rw [World.size_alloc] at hYX; omega
    have hX6 := X0.below hb6 hXl
    have hX7 := ((hX6.other (p := ⟨Y, 0, none⟩) hYX' (.int .i64 1)).other (p := ⟨Y, 1, none⟩) hYX' (.int .i64 pc)).other (p := ⟨Y, 2, none⟩) hYX' (.string m1)
    have hR7 := hY0.set3 (.int .i64 1) (.int .i64 pc) (.string m1)
    have hB7 := bel_set3 (n1.trans (hb6.mono n1.size)) (show wr.heap.size ≤ Y by rw [World.size_alloc] at hYX; omega) (.int .i64 1) (.int .i64 pc) (.string m1)
    (try simp only [fr1, putN, pt, gTA, gCZ, gCS, Go.Act.put, sTA, sCZ, sCS])
    refine wpAnyZ_last rfl rfl (by kernel_rfl) (by kernel_rfl) (fun K hK => ?_)
    (try simp only [gTA, gCZ, gCS])
    go_simp
    refine hK.out _ _ ?_
    clear hK K
    (try simp only [gTA, gCZ, gCS, Act.put, sTA, sCZ, sCS])
    obtain ⟨W7, HW7⟩ : ∃ u, Hid ((((w6.setCell ⟨Y, 0, none⟩ (.int .i64 1)).setCell ⟨Y, 1, none⟩ (.int .i64 pc)).setCell ⟨Y, 2, none⟩ (.string m1)) = u) := ⟨_, jD rfl⟩
    rw [HW7.out] at hX7 hR7 hB7 ⊢
    have HYX := jD hYX'
    have HYW := jD (show wr.heap.size ≤ Y by rw [World.size_alloc] at hYX; omega)
    clear HW7 hb6 hz6 hY0 y0 y1 y2 f0 f1 f2 hX6 hYl hYX hYX' x0 x1 x2 x3 hXl X0 n1
    have HX7 := jD hX7
    have HR7 := jD hR7
    have HB7 := jD hB7
    obtain ⟨x0, x1, x2, x3⟩ := cells4 hX7
    have hXl := hX7.lt
    have hYl := hR7.lt
    clear hX7 hR7 hB7
    go_wp2_with fail
    refine (HWY.out _).mono ?_
    rintro e w' ⟨rfl, rfl⟩
    go_upto_block 2 with fail
    go_cut [] from 11 to 97 (fun wx => RowTo wx Y 54 3 (actV (actR n x)) ∧ Below wr.heap.size wr wx)
    case first =>
     obtain ⟨y0, y1, y2⟩ := cells3 HR7.out
     have g0 := HR7.out.frozen 0
     have g1 := HR7.out.frozen 1
     have g2 := HR7.out.frozen 2
     have k0 := HX7.out.frozen 0
     have k1 := HX7.out.frozen 1
     have HK1 := jD (fun (W : World) (l : List Value) (hR : RowTo W Y 54 3 l) (hB : Below wr.heap.size wr W) (j : Nat) (hj : j < l.length) (u : Value) => (show RowTo (W.setCell ⟨Y, j, none⟩ u) Y 54 3 (l.set j u) ∧ Below wr.heap.size wr (W.setCell ⟨Y, j, none⟩ u) from ⟨hR.put hj u, hB.setCell (p := ⟨Y, j, none⟩) HYW.out u⟩))
     rcases HWC.out with h0 | h1 | h2 | h3 | h6 | h7
     ·have HA := jD (act_0 (n := n) (HWR.out.trans h0))
      subst h0
      as_aux_lemma =>
       go_wp2
       go_meet
       case rel =>
        rw [HA.out, HPC.out]
        have z := HK1.out _ _ HR7.out HB7.out 0 (by simp) (.int .i64 2)
        exact HK1.out _ _ z.1 z.2 2 (by simp) (.string ⟨#[]⟩)
     ·have HA := jD (act_1 (n := n) (HWR.out.trans h1))
      subst h1
      obtain ⟨p5, hp5, hp5l⟩ := pick_some x.a 5 (by omega)
      have HP5 := jD (fun wc => picked_any x.a 5 wc HAB.out.1 HAB.out.2 (by omega) (by omega))
      rw [show ((5 : Nat) : Int) = 5 from rfl] at hp5
      rw [hp5] at HP5 HA
      have HO5 := jD (show (p5 : Int) < 5 by omega)
      have HPK := jD (fun wc => pack_any 81 (oddT p5) wc (by have := oddT_size p5; omega))
      have hc5 : (W7.alloc (.cells #[.string ⟨#[]⟩, .string ⟨#[119, 104, 97, 116]⟩, .string ⟨#[103, 101, 116]⟩, .string ⟨#[115, 101, 116, 32, 97]⟩, .string ⟨#[98, 101, 103, 105, 110, 32, 120]⟩] 9)).cell? ⟨W7.heap.size, p5, none⟩ = some (.string (oddT p5)) := by
       have h := (RowTo.whole W7 #[.string ⟨#[]⟩, .string ⟨#[119, 104, 97, 116]⟩, .string ⟨#[103, 101, 116]⟩, .string ⟨#[115, 101, 116, 32, 97]⟩, .string ⟨#[98, 101, 103, 105, 110, 32, 120]⟩] 9).cell (j := p5) (by simpa using hp5l)
       rw [odd_get p5 hp5l] at h
       exact h
      have hp5I : (p5 : Int) < 5 := by omega
      clear hp5
      go_wp2_with fail
      refine (HP5.out _).mono ?_
      rintro e w5 ⟨rfl, rfl⟩
      go_wp2_with fail
      refine (HPK.out _).mono ?_
      rintro e w8 ⟨rfl, hb8⟩
      have kb := bel_trans ((Below.refl W7.heap.size W7).alloc (nL _) _) hb8
      have hR8 := HR7.out.below kb hYl
      have hB8 := bel_add' HB7.out kb HB7.out.size
      have q2 := (cells3 hR8).2.2
      have k2 := hR8.frozen 2
      have hY8 := hR8.lt
      clear hb8 kb
      go_wp2
      go_meet
      case rel =>
       rw [HA.out, HPC.out]
       exact HK1.out _ _ hR8 hB8 2 (by simp) _
     ·have HA := jD (act_2 (n := n) (HWR.out.trans h2))
      subst h2
      have HPK := jD (fun wc => pack_any 88 ⟨#[]⟩ wc (by decide))
      as_aux_lemma =>
       go_wp2_with fail
       refine (HPK.out _).mono ?_
       rintro e w8 ⟨rfl, kb⟩
       have hR8 := HR7.out.below kb hYl
       have hB8 := bel_add' HB7.out kb HB7.out.size
       have q2 := (cells3 hR8).2.2
       have k2 := hR8.frozen 2
       have hY8 := hR8.lt
       clear kb
       go_wp2
       go_meet
       case rel =>
        rw [HA.out, HPC.out]
        exact HK1.out _ _ hR8 hB8 2 (by simp) _
     ·have HA := jD (act_3 (n := n) (show 3 ≤ wayR x ∧ wayR x < 6 by rw [HWR.out]; exact h3))
      have HAD : Hid (m1.size + m2.size ≤ 124) := jD (by have := HM1.out.1; have := HM2.out; omega)
      have hsum := fun W => run_string_add_sum (P := Tryz.prog) W m1 m2 (by have := HAD.out; omega)
      obtain rfl | rfl | rfl : wy = 3 ∨ wy = 4 ∨ wy = 5 := by omega
      all_goals (as_aux_lemma =>
       go_upto_region 19 with fail
       have hX8 := (HX7.out.put (j := 0) (by simp) (.int .i64 (wrap64 (x.kd + 1)))).put (j := 1) (by simp) (.int .i64 (wrap64 (x.a + 1)))
       have hR8 := (HR7.out.other (p := ⟨wr.heap.size, 0, none⟩) (Ne.symm HYX.out) (.int .i64 (wrap64 (x.kd + 1)))).other (p := ⟨wr.heap.size, 1, none⟩) (Ne.symm HYX.out) (.int .i64 (wrap64 (x.a + 1)))
       have hB8 := (HB7.out.setCell (p := ⟨wr.heap.size, 0, none⟩) (nL _) (.int .i64 (wrap64 (x.kd + 1)))).setCell (p := ⟨wr.heap.size, 1, none⟩) (nL _) (.int .i64 (wrap64 (x.a + 1)))
       obtain ⟨W8, HW8⟩ : ∃ u, Hid ((W7.setCell ⟨wr.heap.size, 0, none⟩ (.int .i64 (wrap64 (x.kd + 1)))).setCell ⟨wr.heap.size, 1, none⟩ (.int .i64 (wrap64 (x.a + 1))) = u) := ⟨_, jD rfl⟩
       rw [HW8.out] at hX8 hR8 hB8 ⊢
       simp only [sCZ, sCS] at hX8
       have HR8 := jD hR8
       have HB8 := jD hB8
       obtain ⟨p0, p1, p2, p3⟩ := cells4 hX8
       have q2 := (cells3 hR8).2.2
       have hXl8 := hX8.lt
       have hYl8 := hR8.lt
       clear HW8 hX8 hR8 hB8 k0 k1 x0 x1 x2 x3 y0 y1 y2 g0 g1 g2 hXl hYl
       refine wp_region_z 7 (fun wx => wx.cell? ⟨wr.heap.size, 0, none⟩ = some (.int .i64 (wrap64 (x.kd + 1))) ∧ wx.cell? ⟨wr.heap.size, 1, none⟩ = some (.int .i64 (wrap64 (x.a + 1))) ∧ wx.cell? ⟨wr.heap.size, 2, none⟩ = some (.int .i64 x.b) ∧ wx.cell? ⟨wr.heap.size, 3, none⟩ = some (.int .i64 x.c) ∧ wx.cell? ⟨Y, 2, none⟩ = some (.string m1)) (by kernel_rfl) (show W8.drew.cell? ⟨wr.heap.size, 0, none⟩ = some (.int .i64 (wrap64 (x.kd + 1))) ∧ W8.drew.cell? ⟨wr.heap.size, 1, none⟩ = some (.int .i64 (wrap64 (x.a + 1))) ∧ W8.drew.cell? ⟨wr.heap.size, 2, none⟩ = some (.int .i64 x.b) ∧ W8.drew.cell? ⟨wr.heap.size, 3, none⟩ = some (.int .i64 x.c) ∧ W8.drew.cell? ⟨Y, 2, none⟩ = some (.string m1) from ⟨p0, p1, p2, p3, q2⟩) (fun hS => ?_)
       refine wpAnyZ_take (i := 0) (v := ?_) rfl (by kernel_rfl) (by kernel_rfl) (by kernel_rfl) (by kernel_rfl) (fun _ _ _ h => h) (Or.inl ⟨by rfl, ?_⟩) hS ?_
       rotate_left
       ·(intro w hSw; (try dsimp only at hSw); (try simp only [gTA, gCZ, gCS]); go_simp; try with_reducible rfl)
       (try simp only [gTA, gCZ, gCS, Act.put, sTA, sCZ, sCS])
       refine wpAnyZ_take (i := 1) (v := ?_) rfl (by kernel_rfl) (by kernel_rfl) (by kernel_rfl) (by kernel_rfl) (fun _ _ _ h => h) (Or.inl ⟨by rfl, ?_⟩) hS ?_
       rotate_left
       ·(intro w hSw; (try dsimp only at hSw); (try simp only [gTA, gCZ, gCS]); go_simp; try with_reducible rfl)
       (try simp only [gTA, gCZ, gCS, Act.put, sTA, sCZ, sCS])
       refine wpAnyZ_take (i := 2) (v := ?_) rfl (by kernel_rfl) (by kernel_rfl) (by kernel_rfl) (by kernel_rfl) (fun _ _ _ h => h) (Or.inl ⟨by rfl, ?_⟩) hS ?_
       rotate_left
       ·(intro w hSw; (try dsimp only at hSw); (try simp only [gTA, gCZ, gCS]); go_simp; try with_reducible rfl)
       (try simp only [gTA, gCZ, gCS, Act.put, sTA, sCZ, sCS])
       refine wpAnyZ_one (i := 3) rfl rfl (by kernel_rfl) (fun K hK => ?_)
       (try simp only [gTA, gCZ, gCS])
       go_simp
       refine (HB2.out _).mono ?_
       rintro e w9 ⟨rfl, hb9⟩
       have kb := bel_add' (Below.refl W8.heap.size W8).drew hb9 (nL _)
       clear hb9
       go_simp
       have hS2 := (show w9.cell? ⟨wr.heap.size, 0, none⟩ = some (.int .i64 (wrap64 (x.kd + 1))) ∧ w9.cell? ⟨wr.heap.size, 1, none⟩ = some (.int .i64 (wrap64 (x.a + 1))) ∧ w9.cell? ⟨wr.heap.size, 2, none⟩ = some (.int .i64 x.b) ∧ w9.cell? ⟨wr.heap.size, 3, none⟩ = some (.int .i64 x.c) ∧ w9.cell? ⟨Y, 2, none⟩ = some (.string m1) from ⟨(kb.cell (p := ⟨wr.heap.size, 0, none⟩) hXl8).trans p0, (kb.cell (p := ⟨wr.heap.size, 1, none⟩) hXl8).trans p1, (kb.cell (p := ⟨wr.heap.size, 2, none⟩) hXl8).trans p2, (kb.cell (p := ⟨wr.heap.size, 3, none⟩) hXl8).trans p3, (kb.cell (p := ⟨Y, 2, none⟩) hYl8).trans q2⟩)
       refine hK.out _ _ hS2 ?_
       clear hK K hS
       have hS := hS2
       clear hS2
       (try simp only [gTA, gCZ, gCS, Act.put, sTA, sCZ, sCS])
       refine wpAnyZ_one (i := 4) rfl rfl (by kernel_rfl) (fun K hK => ?_)
       (try simp only [gTA, gCZ, gCS])
       go_simp
       refine (HMB.out _ (bel_add' (bel_add' HBW.out HB8.out HBW.out.size) kb (bel_add' HBW.out HB8.out HBW.out.size).size)).mono ?_
       rintro e w10 ⟨rfl, hb10⟩
       have kb2 := bel_add' kb hb10 kb.size
       clear hb10
       go_simp
       have hS2 := (show w10.cell? ⟨wr.heap.size, 0, none⟩ = some (.int .i64 (wrap64 (x.kd + 1))) ∧ w10.cell? ⟨wr.heap.size, 1, none⟩ = some (.int .i64 (wrap64 (x.a + 1))) ∧ w10.cell? ⟨wr.heap.size, 2, none⟩ = some (.int .i64 x.b) ∧ w10.cell? ⟨wr.heap.size, 3, none⟩ = some (.int .i64 x.c) ∧ w10.cell? ⟨Y, 2, none⟩ = some (.string m1) from ⟨(kb2.cell (p := ⟨wr.heap.size, 0, none⟩) hXl8).trans p0, (kb2.cell (p := ⟨wr.heap.size, 1, none⟩) hXl8).trans p1, (kb2.cell (p := ⟨wr.heap.size, 2, none⟩) hXl8).trans p2, (kb2.cell (p := ⟨wr.heap.size, 3, none⟩) hXl8).trans p3, (kb2.cell (p := ⟨Y, 2, none⟩) hYl8).trans q2⟩)
       refine hK.out _ _ hS2 ?_
       clear hK K hS
       have hS := hS2
       clear hS2
       (try simp only [gTA, gCZ, gCS, Act.put, sTA, sCZ, sCS])
       refine wpAnyZ_take (i := 5) (v := ?_) rfl (by kernel_rfl) (by kernel_rfl) (by kernel_rfl) (by kernel_rfl) (fun _ _ _ h => h) (Or.inl ⟨by rfl, ?_⟩) hS ?_
       rotate_left
       ·(intro w hSw; (try dsimp only at hSw); (try simp only [gTA, gCZ, gCS]); go_simp; try with_reducible rfl)
       (try simp only [gTA, gCZ, gCS, Act.put, sTA, sCZ, sCS])
       refine wpAnyZ_take (i := 6) (v := ?_) rfl (by kernel_rfl) (by kernel_rfl) (by kernel_rfl) (by kernel_rfl) (fun _ _ _ h => h) (Or.inl ⟨by rfl, ?_⟩) hS ?_
       rotate_left
       ·(intro w hSw; (try dsimp only at hSw); (try simp only [gTA, gCZ, gCS]); go_simp; try with_reducible rfl)
       (try simp only [gTA, gCZ, gCS, Act.put, sTA, sCZ, sCS])
       have hR9 := HR8.out.below kb2 hYl8
       have hB9 := bel_add' HB8.out kb2 HB8.out.size
       have u2 := (cells3 hR9).2.2
       have z2 := hR9.frozen 2
       refine wpAnyZ_last rfl rfl (by kernel_rfl) (by kernel_rfl) (fun K hK => ?_)
       (try simp only [gTA, gCZ, gCS])
       go_simp
       refine hK.out _ _ ?_
       clear hK K
       (try simp only [gTA, gCZ, gCS, Act.put, sTA, sCZ, sCS])
       go_wp2
       go_meet
       case rel =>
        rw [HA.out, HPC.out, HQ1.out, HQ2.out]
        exact HK1.out _ _ hR9 hB9 2 (by simp) _
       )
     ·have HA := jD (act_6 (n := n) (HWR.out.trans h6))
      subst h6
      have hmx : max 1 (m1.size : Int) = m1.size := by have := HM1.out.2; omega
      have hmn : (max 1 m1.size : Nat) = m1.size := by have := HM1.out.2; omega
      rw [HQ1.out, hmn] at HA
      obtain ⟨p6, hp6, hp6l⟩ := pick_some x.a m1.size (by have := HM1.out.2; omega)
      have HP6 := jD (fun wc => picked_any x.a (m1.size : Int) wc HAB.out.1 HAB.out.2 (by omega) (by have := HM1.out.1; omega))
      rw [hp6] at HP6 HA
      have hp6I : (p6 : Int) ≤ (m1.size : Int) := by omega
      clear hp6
      go_upto_region 21 with fail
      as_aux_lemma =>
       refine wp_region_z 11 (fun wx => wx.cell? ⟨wr.heap.size, 1, none⟩ = some (.int .i64 x.a) ∧ wx.cell? ⟨Y, 2, none⟩ = some (.string m1)) (by kernel_rfl) (show W7.drew.cell? ⟨wr.heap.size, 1, none⟩ = some (.int .i64 x.a) ∧ W7.drew.cell? ⟨Y, 2, none⟩ = some (.string m1) from ⟨x1, y2⟩) (fun hS => ?_)
       refine tkE [(0, []), (1, []), (2, []), (3, []), (4, []), (5, []), (6, []), (7, [])] ?_
       iterate 8
        refine tkS (v := ?_) hS ?_ ?_
        rotate_left
        ·(intro w hSw; (try dsimp only at hSw); (try simp only [gTA, gCZ, gCS]); go_simp; try with_reducible rfl)
        (try simp only [gTA, gCZ, gCS, Act.put, sTA, sCZ, sCS])
       refine tkF ?_
       refine wpAnyZ_one (i := 8) rfl rfl (by kernel_rfl) (fun K hK => ?_)
       (try simp only [gTA, gCZ, gCS])
       go_simp
       refine (HP6.out _).mono ?_
       rintro e w9 ⟨rfl, rfl⟩
       go_simp
       have hS2 := (show W7.drew.cell? ⟨wr.heap.size, 1, none⟩ = some (.int .i64 x.a) ∧ W7.drew.cell? ⟨Y, 2, none⟩ = some (.string m1) from ⟨x1, y2⟩)
       refine hK.out _ _ hS2 ?_
       clear hK K hS
       have hS := hS2
       clear hS2
       (try simp only [gTA, gCZ, gCS, Act.put, sTA, sCZ, sCS])
       refine tkE [(9, []), (10, [])] ?_
       iterate 2
        refine tkS (v := ?_) hS ?_ ?_
        rotate_left
        ·(intro w hSw; (try dsimp only at hSw); (try simp only [gTA, gCZ, gCS]); go_simp; try with_reducible rfl)
        (try simp only [gTA, gCZ, gCS, Act.put, sTA, sCZ, sCS])
       refine tkF ?_
       refine wpAnyZ_last rfl rfl (by kernel_rfl) (by kernel_rfl) (fun K hK => ?_)
       (try simp only [gTA, gCZ, gCS])
       go_simp
       refine hK.out _ _ ?_
       clear hK K
       (try simp only [gTA, gCZ, gCS, Act.put, sTA, sCZ, sCS])
       go_wp2
       go_meet
       case rel =>
        rw [HA.out, HPC.out]
        simp only [Int.toNat_natCast]
        have z := HK1.out _ _ HR7.out HB7.out 2 (by simp) (.string (m1.extract 0 p6))
        exact ⟨z.1.below ((Below.refl _ _).drew) z.1.lt, z.2.drew⟩
     ·have HA := jD (act_7 (n := n) (show 6 < wayR x by rw [HWR.out]; exact h7))
      have t0 : ((wy : Int) == 0) = false := beq_eq_false_iff_ne.2 (by omega)
      have t1 : ((wy : Int) == 1) = false := beq_eq_false_iff_ne.2 (by omega)
      have t2 : ((wy : Int) == 2) = false := beq_eq_false_iff_ne.2 (by omega)
      have t3 : ((wy : Int) == 3) = false := beq_eq_false_iff_ne.2 (by omega)
      have t4 : ((wy : Int) == 4) = false := beq_eq_false_iff_ne.2 (by omega)
      have t5 : ((wy : Int) == 5) = false := beq_eq_false_iff_ne.2 (by omega)
      have t6 : ((wy : Int) == 6) = false := beq_eq_false_iff_ne.2 (by omega)
      as_aux_lemma =>
       go_wp2
       go_meet
       case rel =>
        rw [HA.out, HPC.out, HQ1.out]
        exact ⟨HR7.out, HB7.out⟩
    case rest =>
     obtain ⟨hR, hB⟩ := hcut
     obtain ⟨g, hs, hg⟩ := HR.out.sl
     have hbs := HR.out.bel.size
     have hbs2 := hB.size
     obtain ⟨i0, hi, hz0, hz1, hz2⟩ := info_parts act_row
     have hlk := actsR_len (l := l) (most := k) (n := n)
     generalize actR n x = t at *
     obtain ⟨tk, tc, td⟩ := t
     have hR' : RowTo wc Y 54 3 [.int .i64 tk, .int .i64 tc, .string td] := hR
     obtain ⟨y0, y1, y2⟩ := cells3 hR'
     have hYl2 := hR'.lt
     have nd := (Below.refl wc.heap.size wc).alloc (nL _) (.cells #[.int .i64 tk, .int .i64 tc, .string td] 54)
     have hXd := RowTo.whole wc #[.int .i64 tk, .int .i64 tc, .string td] 54
     obtain ⟨b', off', cap, w8, hrun, hs8, hgr, hb8⟩ := ((hs.below (hB.mono (nL _))).below nd).append (P := Tryz.prog) 24 24 i0 _ 32 Tryz.underlying24 hi hz0 hz1 hz2 rfl (by omega) ⟨wc.heap.size, 0, none⟩ 1 [.int .i64 tk, .int .i64 tc, .string td] rfl (fun j u hu => by
      obtain ⟨hj, hu⟩ := List.getElem?_eq_some_iff.1 hu
      rw [← hu]
      rw [Addr.add_lit, Nat.zero_add]
      exact hXd.cell (j := j) hj) (fun u hu => by simp at hu; rcases hu with rfl | rfl | rfl <;> rfl) (by unfold maxLen; omega) (by omega)
     have HF : Hid (ActsAt w w8 (.slice (some ⟨b', off', none⟩) ((actsR l k n).length + 1) cap) (actsR l (k + 1) n)) := jD (by
      rw [HS1.out]
      refine ⟨⟨some b', ?_, fun y hy => ?_⟩, ?_⟩
      ·rw [List.length_append, List.map_append, List.flatten_append]; exact hs8
      ·injection hy with hy; subst hy
       rcases hb8 with h | h
       ·exact hg _ h
       ·have := h.1; rw [World.size_alloc] at this; omega
      ·exact (bel_add' (bel_add' HR.out.bel hB hbs) nd (by omega)).grown hgr (by rw [World.size_alloc]; omega) (fun y hy => hg y hy))
     obtain ⟨A', c', hv', _⟩ := hs.shape
     clear hs hR hR' hB hs8 hgr hb8 hXd nd hi hz0 hz1 hz2 hg hbs hbs2 HR7 HX7 HB7 HMS HMB HB2 HT2 HP HWY
     generalize (actsR l k n).length = nk at *
     subst hv'
     go_wp2_with (at_builtin; refine Lib.wpList_append_run _ rfl _ _ _ _ rfl _ _ rfl rfl _ _ hrun ?_)
     go_roundw
     case rel => exact ⟨k + 1, by omega, by omega, by go_num, HF.out⟩
     case measure => simp [intOf]; omega
  ·have HTK := jD (show actsR l k n = actsR l most n by
    unfold actsR
    by_cases h : k < l.length
    ·rw [show k = most by omega]
    ·rw [List.take_of_length_le (show l.length ≤ most by omega), List.take_of_length_le (show l.length ≤ k by omega)])
   by_cases h1 : k < l.length
   ·have h2 : ¬ k < most := fun h => hlt ⟨h1, h⟩
    clear hlt
    go_wp2
    go_ret
    exact ⟨_, rfl, by rw [← HTK.out]; exact HR.out⟩
   ·clear hlt
    go_wp2
    go_ret
    exact ⟨_, rfl, by rw [← HTK.out]; exact HR.out⟩
def encA (x : Act) : List Value := [.int .i64 x.kind, .int .i64 x.c, .string x.data]
section
variable {w : World} {b off cap : Nat} {d : List (Act)}
theorem Rw.cA (h : Rw w 54 3 b off cap (d.map encA)) {i : Nat} (hi : i < d.length) : w.cell? ⟨b, off + i * 3, none⟩ = some (.int .i64 d[i].kind) ∧ w.cell? ⟨b, off + i * 3 + 1, none⟩ = some (.int .i64 d[i].c) ∧ w.cell? ⟨b, off + i * 3 + 2, none⟩ = some (.string d[i].data) := by
 have hi' : i < (d.map encA).length := by simpa using hi
 have h0 := h.cell i hi' 0 (by omega)
 have h1 := h.cell i hi' 1 (by omega)
 have h2 := h.cell i hi' 2 (by omega)
 rw [List.getElem_map] at h0
 rw [List.getElem_map] at h1
 rw [List.getElem_map] at h2
 exact ⟨by simpa [encA] using h0, by simpa [encA] using h1, by simpa [encA] using h2⟩
end
set_option maxHeartbeats 400000 in
theorem indexFuncA (p : Act → Bool) (w : World) (b off cap B : Nat) (d : List (Act)) (hR : Rw w 54 3 b off cap (d.map encA)) (hby : d.length ≤ 1000000000000000) (hB : B ≤ b)
  (hp : ∀ x ∈ d, ∀ wc, Below B w wc → Calls Tryz.prog 41 #[.agg #[.int .i64 x.kind, .int .i64 x.c, .string x.data]] wc fun e w' => e = .returned (.bool (p x)) ∧ Below wc.heap.size wc w') :
  Calls Tryz.prog 60 #[.slice (some ⟨b, off, none⟩) d.length cap, .func (.func 41) #[] #[]] w fun e w' => (∃ i : Int, e = .returned (.int .i64 i) ∧ ((i = -1 ∧ ∀ x ∈ d, p x = false) ∨ ∃ k, ∃ hk : k < d.length, i = k ∧ p d[k] = true ∧ ∀ x ∈ d.take k, p x = false)) ∧ Below w.heap.size w w' := by
 have hbl := hR.row.lt
 have HR := jD hR
 have HP := jD hp
 have hcap : d.length ≤ cap := by simpa using hR.room
 clear hR hp
 go_enter Tryz.func60, Tryz.ntmps60
 go_wp2
 go_loopw [8] (fun i wr => ∃ k : Nat, k ≤ d.length ∧ i = .int .i64 k ∧ Hid ((∀ x ∈ d.take k, p x = false) ∧ Below w.heap.size w wr)) (fun i _ => d.length - (intOf i).toNat)
 case atStart => exact ⟨0, by omega, rfl, (fun x hx => by simp at hx), Below.refl _ _⟩
 case round =>
  obtain ⟨k, hk, rfl, HZ⟩ := hrel
  by_cases hlt : k < d.length
  ·have hRk := HR.out.below HZ.out.2 hbl
   obtain ⟨a0, a1, a2⟩ := hRk.cA hlt
   have hblr : b < wr.heap.size := Nat.lt_of_lt_of_le hbl HZ.out.2.size
   have HC := jD (HP.out d[k] (List.getElem_mem hlt) wr (HZ.out.2.mono (by omega)))
   have HT := jD (fun (h : p d[k] = true) => (show ∃ k', ∃ hk : k' < d.length, (k : Int) = k' ∧ p d[k'] = true ∧ ∀ x ∈ d.take k', p x = false from ⟨k, hlt, rfl, h, HZ.out.1⟩))
   have HF := jD (fun (h : p d[k] = false) => (show ∀ x ∈ d.take (k + 1), p x = false from fun x hx => by
    rw [List.take_succ_eq_append_getElem hlt] at hx
    rcases List.mem_append.1 hx with hx | hx
    ·exact HZ.out.1 x hx
    ·rw [List.mem_singleton.1 hx]; exact h))
   have HZ2 := jD HZ.out.2
   generalize d[k] = x at *
   clear HZ hRk
   cases hq : p x with
   | true =>
    have HT2 := jD (HT.out hq)
    rw [hq] at HC
    clear HT HF hq
    go_wp2_with fail
    refine HC.out.mono ?_
    rintro e w2 ⟨rfl, hb2⟩
    have HB2 := jD (HZ2.out.trans (hb2.mono HZ2.out.size))
    clear hb2
    go_wp2
    go_ret
    exact ⟨⟨k, rfl, .inr HT2.out⟩, HB2.out⟩
   | false =>
    have HF2 := jD (HF.out hq)
    rw [hq] at HC
    clear HT HF hq
    go_wp2_with fail
    refine HC.out.mono ?_
    rintro e w2 ⟨rfl, hb2⟩
    have HB2 := jD (HZ2.out.trans (hb2.mono HZ2.out.size))
    clear hb2
    go_wp2
    go_roundw
    case rel => exact ⟨k + 1, by omega, by go_num, HF2.out, HB2.out⟩
    case measure => simp [intOf]; omega
  ·obtain rfl : k = d.length := by omega
   rw [List.take_length] at HZ
   go_wp2
   go_ret
   exact ⟨⟨-1, rfl, .inl ⟨rfl, HZ.out.1⟩⟩, HZ.out.2⟩
set_option maxHeartbeats 1000000 in
theorem deleteFuncA (p : Act → Bool) (w : World) (b off cap B : Nat) (d : List (Act)) (hR : Rw w 54 3 b off cap (d.map encA)) (hby : d.length ≤ 1000000000000000) (hB : B ≤ b)
  (hp : ∀ x ∈ d, ∀ wc, Below B w wc → Calls Tryz.prog 41 #[.agg #[.int .i64 x.kind, .int .i64 x.c, .string x.data]] wc fun e w' => e = .returned (.bool (p x)) ∧ Below wc.heap.size wc w') :
  Calls Tryz.prog 39 #[.slice (some ⟨b, off, none⟩) d.length cap, .func (.func 41) #[] #[]] w fun e w' => e = .returned (.slice (some ⟨b, off, none⟩) (d.filter fun x => !p x).length cap) ∧ Rw w' 54 3 b off cap ((d.filter fun x => !p x).map encA) ∧ Below B w w' ∧ ∀ g, g < w.heap.size → g ≠ b → w'.heap[g]? = w.heap[g]? := by
 have hbl := hR.row.lt
 have HI := jD (indexFuncA p w b off cap B d hR hby hB hp)
 have HR := jD hR
 have HP := jD hp
 have hcap : d.length ≤ cap := by simpa using hR.room
 clear hR hp
 go_enter Tryz.func39, Tryz.ntmps39
 go_wp2_with fail
 refine HI.out.mono ?_
 rintro e w1 ⟨⟨i, rfl, hi⟩, hb1⟩
 have HB1 := jD hb1
 clear HI hb1
 rcases hi with ⟨rfl, hall⟩ | ⟨k, hk, rfl, h1, h0⟩
 ·have HA := jD (show (d.filter fun x => !p x) = d from List.filter_eq_self.2 fun x hx => by rw [hall x hx]; rfl)
  clear hall
  go_wp2
  go_ret
  rw [HA.out]
  exact ⟨rfl, HR.out.below HB1.out hbl, HB1.out.mono (by omega), fun g hg _ => HB1.out.block g hg⟩
 ·have HK := jD (KeepI.start hk h1 h0)
  have hne : ((k : Int) == -1) = false := beq_eq_false_iff_ne.2 (by omega)
  clear h1 h0
  go_wp2_with fail
  go_loopw [5, 6, 7] (fun s5 s6 s7 wr => ∃ (i j : Nat) (dk : List (Act)), s5 = .int .i64 i ∧ s6 = .int .i64 j ∧ i < j ∧ j ≤ d.length ∧ Hid (KeepI p d i j dk ∧ Rw wr 54 3 b off cap (dk.map encA) ∧ Below B w wr ∧ (w.heap.size ≤ wr.heap.size) ∧ ∀ g, g < w.heap.size → g ≠ b → wr.heap[g]? = w.heap[g]?)) (fun _ s6 _ _ => d.length - (intOf s6).toNat)
  case atStart => exact ⟨k, k + 1, d, rfl, by go_num, by omega, by omega, HK.out, HR.out.below HB1.out hbl, HB1.out.mono (by omega), HB1.out.size, fun g hg _ => HB1.out.block g hg⟩
  case round =>
   obtain ⟨i, j, dk, rfl, rfl, hij, hjn, HZ⟩ := hrel
   clear HK HB1
   by_cases hlt : j < d.length
   ·have hRk := HZ.out.2.1
    have hlk := HZ.out.1.len
    have c0 := hRk.cA (i := j) (by omega)
    have z0 := hRk.cA (i := i) (by omega)
    rw [HZ.out.1.at hlt] at c0
    obtain ⟨a0, a1, a2⟩ := c0
    obtain ⟨z0, z1, z2⟩ := z0
    have f0 := hRk.row.frozen (off + i * 3)
    have f1 := hRk.row.frozen (off + i * 3 + 1)
    have f2 := hRk.row.frozen (off + i * 3 + 2)
    have hbr := hRk.row.lt
    have y0 := (RowTo.whole wr #[.int .i64 d[j].kind, .int .i64 d[j].c, .string d[j].data] 54).cell (j := 0) (by simp)
    have y1 := (RowTo.whole wr #[.int .i64 d[j].kind, .int .i64 d[j].c, .string d[j].data] 54).cell (j := 1) (by simp)
    have y2 := (RowTo.whole wr #[.int .i64 d[j].kind, .int .i64 d[j].c, .string d[j].data] 54).cell (j := 2) (by simp)
    have HC := jD (HP.out d[j] (List.getElem_mem hlt) (wr.alloc (.cells #[.int .i64 d[j].kind, .int .i64 d[j].c, .string d[j].data] 54)) (HZ.out.2.2.1.alloc (by have := HZ.out.2.2.2.1; omega) _))
    have HKK := jD (fun (h : p d[j] = false) => HZ.out.1.keep hlt h)
    have HKS := jD (fun (h : p d[j] = true) => HZ.out.1.skip hlt h)
    have hjI : (j : Int) < (d.length : Int) := by omega
    have HM := jD (List.getElem_mem hlt)
    generalize d[j] = x at *
    skip
    clear hRk
    cases hq : p x with
    | true =>
     have HK2 := jD (HKS.out hq)
     rw [hq] at HC
     clear HKS HKK hq
     go_wp2_with fail
     refine HC.out.mono ?_
     rintro e w2 ⟨rfl, hb2⟩
     have HB2 := jD hb2
     clear hb2
     have hw2 : Below (wr.alloc (.cells #[.int .i64 x.kind, .int .i64 x.c, .string x.data] 54)).heap.size (wr.alloc (.cells #[.int .i64 x.kind, .int .i64 x.c, .string x.data] 54)) w2 := HB2.out
     have hz2 := hw2.size
     simp only [World.size_alloc] at hz2
     have hn2 : ∀ g, g < wr.heap.size → w2.heap[g]? = wr.heap[g]? := fun g hg => (hw2.block g (by simp; omega)).trans (Below.heap_alloc _ _ _ hg)
     have H2 := jD (And.intro (HZ.out.2.1.keep (hn2 b hbr)) (And.intro (show Below B w w2 from (HZ.out.2.2.1.alloc (by have := HZ.out.2.2.2.1; omega) _).trans (hw2.mono (by simp; have := HZ.out.2.2.2.1; omega))) (And.intro (show w.heap.size ≤ w2.heap.size by have := HZ.out.2.2.2.1; have := hw2.size; omega) (fun g (hg : g < w.heap.size) (hne : g ≠ b) => (hn2 g (by have := HZ.out.2.2.2.1; omega)).trans (HZ.out.2.2.2.2 g hg hne)))))
     have hb2' : b < w2.heap.size := by have := hw2.size; simp at this; omega
     have u0 := (hw2.cell (p := ⟨wr.heap.size, 0, none⟩) (by simp)).trans y0
     have u1 := (hw2.cell (p := ⟨wr.heap.size, 1, none⟩) (by simp)).trans y1
     have u2 := (hw2.cell (p := ⟨wr.heap.size, 2, none⟩) (by simp)).trans y2
     go_wp2
     go_roundw
     case rel => exact ⟨i, j + 1, dk, rfl, by go_num, by omega, by omega, HK2.out, H2.out.1, H2.out.2.1, H2.out.2.2.1, H2.out.2.2.2⟩
     case measure => simp [intOf]; omega
    | false =>
     have HK2 := jD (HKK.out hq)
     rw [hq] at HC
     clear HKS HKK hq
     go_wp2_with fail
     refine HC.out.mono ?_
     rintro e w2 ⟨rfl, hb2⟩
     have HB2 := jD hb2
     clear hb2
     have hw2 : Below (wr.alloc (.cells #[.int .i64 x.kind, .int .i64 x.c, .string x.data] 54)).heap.size (wr.alloc (.cells #[.int .i64 x.kind, .int .i64 x.c, .string x.data] 54)) w2 := HB2.out
     have hz2 := hw2.size
     simp only [World.size_alloc] at hz2
     have hn2 : ∀ g, g < wr.heap.size → w2.heap[g]? = wr.heap[g]? := fun g hg => (hw2.block g (by simp; omega)).trans (Below.heap_alloc _ _ _ hg)
     have H2 := jD (And.intro (HZ.out.2.1.keep (hn2 b hbr)) (And.intro (show Below B w w2 from (HZ.out.2.2.1.alloc (by have := HZ.out.2.2.2.1; omega) _).trans (hw2.mono (by simp; have := HZ.out.2.2.2.1; omega))) (And.intro (show w.heap.size ≤ w2.heap.size by have := HZ.out.2.2.2.1; have := hw2.size; omega) (fun g (hg : g < w.heap.size) (hne : g ≠ b) => (hn2 g (by have := HZ.out.2.2.2.1; omega)).trans (HZ.out.2.2.2.2 g hg hne)))))
     have hb2' : b < w2.heap.size := by have := hw2.size; simp at this; omega
     have u0 := (hw2.cell (p := ⟨wr.heap.size, 0, none⟩) (by simp)).trans y0
     have u1 := (hw2.cell (p := ⟨wr.heap.size, 1, none⟩) (by simp)).trans y1
     have u2 := (hw2.cell (p := ⟨wr.heap.size, 2, none⟩) (by simp)).trans y2
     have hi2 : i < (dk.map encA).length := by rw [List.length_map, HZ.out.1.len]; omega
     have H3 := jD (And.intro (H2.out.1.set hi2 (e := encA x) rfl) (And.intro (below_setCells H2.out.2.1 hB (off + i * 3) (encA x)) (And.intro (show w.heap.size ≤ (w2.setCells b (off + i * 3) (encA x)).heap.size by rw [(setCells_keeps b _ _ _).2.2.2]; exact H2.out.2.2.1) (fun g (hg : g < w.heap.size) (hne : g ≠ b) => (setCells_other w2 b (off + i * 3) (encA x) hne).trans (H2.out.2.2.2 g hg hne)))))
     rw [← List.map_set] at H3
     have v0 := (World.cell?_of_block (a := ⟨b, off + i * 3, none⟩) (hn2 b hbr)).trans z0
     have g0 := (World.frozen?_of_block (a := ⟨b, off + i * 3, none⟩) (hn2 b hbr)).trans f0
     have v1 := (World.cell?_of_block (a := ⟨b, off + i * 3 + 1, none⟩) (hn2 b hbr)).trans z1
     have g1 := (World.frozen?_of_block (a := ⟨b, off + i * 3 + 1, none⟩) (hn2 b hbr)).trans f1
     have v2 := (World.cell?_of_block (a := ⟨b, off + i * 3 + 2, none⟩) (hn2 b hbr)).trans z2
     have g2 := (World.frozen?_of_block (a := ⟨b, off + i * 3 + 2, none⟩) (hn2 b hbr)).trans f2
     simp only [World.setCells, encA] at H3
     go_wp2
     go_roundw
     case rel => exact ⟨i + 1, j + 1, dk.set i x, by go_num, by go_num, by omega, by omega, HK2.out, H3.out.1, H3.out.2.1, H3.out.2.2.1, H3.out.2.2.2⟩
     case measure => simp [intOf]; omega
   ·obtain rfl : j = d.length := by omega
    have hRk := HZ.out.2.1
    have hlk := HZ.out.1.len
    have hbr := hRk.row.lt
    have hcl : ∀ ty, (Builtin.clear_ #[24] ty #[.slice (some ⟨b, off + i * 3, none⟩) (d.length - i) (cap - i)]).run Tryz.prog wr = .ok (.tuple #[]) (wr.setCells b (off + i * 3) (Builtin.zeroCells ((.agg #[.int .i64 0, .int .i64 0, .string ⟨#[]⟩]) : Value).cells (d.length - i)).toList) := fun ty => by
     refine run_clear_cells (P := Tryz.prog) wr 24 54 ty (.agg #[.int .i64 0, .int .i64 0, .string ⟨#[]⟩]) Tryz.underlying24 Tryz.zeroValue54 (by simp [Value.cells, Value.oneCell']) (by decide) b (off + i * 3) (d.length - i) (cap - i) (by omega) (fun q hq => ?_) (fun q => hRk.row.frozen _)
     obtain ⟨u, hu⟩ := hRk.row.any (j := off + i * 3 + q) (by have : q < (d.length - i) * 3 := hq; have : d.length * 3 ≤ cap * 3 := Nat.mul_le_mul_right _ hcap; omega)
     rw [hu]; rfl
    have H2 := jD (hRk.behind (i := i) (by rw [List.length_map]; omega) (Builtin.zeroCells ((.agg #[.int .i64 0, .int .i64 0, .string ⟨#[]⟩]) : Value).cells (d.length - i)).toList)
    rw [← List.map_take, HZ.out.1.done] at H2
    have HN := jD HZ.out.1.num
    have H3 := jD (And.intro (below_setCells HZ.out.2.2.1 hB (off + i * 3) (Builtin.zeroCells ((.agg #[.int .i64 0, .int .i64 0, .string ⟨#[]⟩]) : Value).cells (d.length - i)).toList) (fun g (hg : g < w.heap.size) (hne : g ≠ b) => (setCells_other wr b (off + i * 3) (Builtin.zeroCells ((.agg #[.int .i64 0, .int .i64 0, .string ⟨#[]⟩]) : Value).cells (d.length - i)).toList hne).trans (HZ.out.2.2.2.2 g hg hne)))
    clear hRk
    go_wp2
    go_ret
    refine ⟨by rw [HN.out]; rfl, H2.out, H3.out.1, H3.out.2⟩
theorem byte_x (s : ByteArray) (h : 1 ≤ s.size) : ((s.extract 0 1).toList == [88]) = decide (s.data[0]? = some 88) := by
 have h0 : 0 < s.data.size := h
 have e : (s.extract 0 1).toList = [s.data[0]] := by
  rw [Lib.toList_data, ext_list]
  simp only [List.drop_zero]
  cases hl : s.data.toList with
  | nil => exfalso; have := congrArg List.length hl; rw [Array.length_toList] at this; simp only [List.length_nil] at this; omega
  | cons a l =>
   have : s.data[0] = a := by
    have : s.data.toList[0]'(by rw [hl]; simp) = a := by simp [hl]
    simpa using this
   simp [this]
 rw [e, Array.getElem?_eq_getElem h0]
 by_cases h88 : s.data[0] = 88
 ·rw [h88]; rfl
 ·rw [decide_eq_false (fun hh => h88 (by injection hh))]
  refine beq_eq_false_iff_ne.2 fun hh => h88 ?_
  injection hh
theorem prefX_any (s : ByteArray) (w : World) (hs : s.size ≤ maxLen) : Calls Tryz.prog 42 #[.string s, .string ⟨#[88]⟩] w fun e w' => e = .returned (.bool (decide (1 ≤ s.size) && decide (s.data[0]? = some 88))) ∧ w = w' := by
 by_cases h : 1 ≤ s.size
 ·have hx := byte_x s h
  have h1 : decide (1 ≤ s.size) = true := decide_eq_true h
  have h2 : decide (1 ≤ (s.size : Int)) = true := decide_eq_true (by omega)
  have hI : (1 : Int) ≤ (s.size : Int) := by omega
  obtain ⟨q, hq⟩ : ∃ q, decide (s.data[0]? = some 88) = q := ⟨_, rfl⟩
  rw [hq] at hx ⊢
  rw [h1, Bool.true_and]
  clear h1 hq
  go_enter Tryz.func42, Tryz.ntmps42
  go_wp2
  go_ret
  exact ⟨rfl, rfl⟩
 ·have h1 : decide (1 ≤ s.size) = false := decide_eq_false h
  have h2 : decide (1 ≤ (s.size : Int)) = false := decide_eq_false (by omega)
  rw [h1, Bool.false_and]
  clear h1
  go_enter Tryz.func42, Tryz.ntmps42
  go_wp2
  go_ret
  exact ⟨rfl, rfl⟩
theorem gone_any (a : Act) (w : World) (hs : a.data.size ≤ maxLen) : Calls Tryz.prog 41 #[.agg #[.int .i64 a.kind, .int .i64 a.c, .string a.data]] w fun e w' => e = .returned (.bool (goneB a)) ∧ Below w.heap.size w w' := by
 have HP := jD (fun wc => prefX_any a.data wc hs)
 by_cases h : a.kind = 2
 ·have t1 : (a.kind == 2) = true := by simp [h]
  have hg : goneB a = true := by unfold goneB; rw [decide_eq_true h]; rfl
  rw [hg]
  clear h hg
  generalize a.kind = k at *
  generalize a.c = c at *
  generalize a.data = d at *
  go_enter Tryz.func41, Tryz.ntmps41
  go_wp2
  go_ret
  exact ⟨rfl, (Below.refl _ _).alloc (nL _) _⟩
 ·have t1 : (a.kind == 2) = false := by simp [h]
  have hg : goneB a = (decide (1 ≤ a.data.size) && decide (a.data.data[0]? = some 88)) := by unfold goneB; rw [decide_eq_false h]; rfl
  rw [hg]
  clear h hg
  generalize a.kind = k at *
  generalize a.c = c at *
  generalize a.data = d at *
  generalize (decide (1 ≤ d.size) && decide (d.data[0]? = some 88)) = q at *
  go_enter Tryz.func41, Tryz.ntmps41
  go_wp2_with fail
  refine (HP.out _).mono ?_
  rintro e w1 ⟨rfl, rfl⟩
  go_wp2
  go_ret
  exact ⟨rfl, (Below.refl _ _).alloc (nL _) _⟩
theorem actV_len (al : List Act) : ∀ e ∈ al.map actV, e.length = 3 := fun e he => by obtain ⟨x, _, rfl⟩ := List.mem_map.1 he; rfl
theorem Sl.alst {w : World} {out : Value} {g : Option Nat} {al : List Act} (h : Sl w 54 3 out g al.length (al.map actV).flatten) (hby : al.length * 32 ≤ 140737488351232) (hs : ∀ a ∈ al, a.data.size ≤ 140737488351232) : ALst w w.heap.size out al := by
 obtain ⟨A, c, rfl, hc⟩ := h.shape
 refine ⟨⟨A, c, rfl, hc⟩, hby, hs, fun hn => ?_⟩
 obtain ⟨b, off, cap, h1, h2, h3, h4⟩ := h.at hn
 refine ⟨b, off, cap, h2, h.lt h1, fun i hi => ?_⟩
 have hf : ∀ j, j < 3 → w.cell? ⟨b, off + (i * 3 + j), none⟩ = (actV al[i])[j]? := fun j hj => by
  have hf := flat_get (d := al.map actV) (size := 3) (actV_len al) (i := i) (by simpa using hi) hj
  rw [List.getElem_map] at hf
  have hl : i * 3 + j < (al.map actV).flatten.length := by rw [h.len]; exact at_in hi hj
  rw [h4 _ hl, ← List.getElem?_eq_getElem hl]
  exact hf
 have h0 := hf 0 (by omega)
 have h1 := hf 1 (by omega)
 have h2 := hf 2 (by omega)
 rw [← Nat.add_assoc] at h0 h1 h2
 exact ⟨h0, h1, h2⟩
theorem ActsAt.alst {w w' : World} {out : Value} {al : List Act} (h : ActsAt w w' out al) (hby : al.length ≤ 1000) (hs : ∀ a ∈ al, a.data.size ≤ 1000) : ALst w' w'.heap.size out al := by
 obtain ⟨g, h1, _⟩ := h.sl
 exact h1.alst (by omega) (fun a ha => by have := hs a ha; omega)
theorem Rw.alst {w : World} {b off cap : Nat} {al : List Act} (h : Rw w 54 3 b off cap (al.map encA)) (hby : al.length ≤ 1000) (hs : ∀ a ∈ al, a.data.size ≤ 1000) : ALst w w.heap.size (.slice (some ⟨b, off, none⟩) al.length cap) al :=
 ⟨⟨_, _, rfl, by simpa using h.room⟩, by omega, fun a ha => by have := hs a ha; omega, fun _ => ⟨b, off, cap, rfl, h.row.lt, fun i hi => h.cA hi⟩⟩
set_option maxHeartbeats 400000 in
theorem indexFuncA_nil (A : Option Addr) (c : Nat) (w : World) : Calls Tryz.prog 60 #[.slice A 0 c, .func (.func 41) #[] #[]] w fun e w' => e = .returned (.int .i64 (-1)) ∧ w' = w := by
 go_enter Tryz.func60, Tryz.ntmps60
 go_wp2
 go_loopw [8] (fun i wr => i = .int .i64 0 ∧ wr = w) (fun i _ => 0)
 case atStart => exact ⟨rfl, rfl⟩
 case round =>
  obtain ⟨rfl, rfl⟩ := hrel
  go_wp2
  go_ret
  exact ⟨rfl, rfl⟩
set_option maxHeartbeats 400000 in
theorem deleteFuncA_nil (A : Option Addr) (c : Nat) (w : World) : Calls Tryz.prog 39 #[.slice A 0 c, .func (.func 41) #[] #[]] w fun e w' => e = .returned (.slice A 0 c) ∧ w' = w := by
 have HI := jD (indexFuncA_nil A c)
 go_enter Tryz.func39, Tryz.ntmps39
 go_wp2_with fail
 refine (HI.out _).mono ?_
 rintro e w1 ⟨rfl, rfl⟩
 go_wp2
 go_ret
 exact ⟨rfl, rfl⟩
set_option maxHeartbeats 1000000 in
theorem staying_any (v : Value) (l : List Raw) (most n : Nat) (w : World) (hl : RLst w w.heap.size v l) (hWo : Words w) (hn : 0 < n) (hn6 : n ≤ 6) (hm : most ≤ 1000) :
  Calls Tryz.prog 22 #[v, .int .i64 most, .int .i64 n] w fun e w' => ∃ out, e = .returned out ∧ ALst w' w'.heap.size out (stayR l most n) ∧ Below w.heap.size w w' := by
 obtain ⟨E, e, rfl, he⟩ := hl.form
 have HA := jD (acts_any (.slice E l.length e) l most n w hl hWo hn hn6 hm)
 have hlen := actsR_len (l := l) (most := most) (n := n)
 have hsz : ∀ a ∈ actsR l most n, a.data.size ≤ 1000 := fun a ha => by
  obtain ⟨r, _, rfl⟩ := List.mem_map.1 ha
  have := dataR_size r
  show (dataR r).size ≤ _
  omega
 have HSR := jD (show stayR l most n = (actsR l most n).filter (fun a => !goneB a) from rfl)
 rw [HSR.out]
 generalize actsR l most n = al at *
 clear hl hWo HSR
 go_enter Tryz.func22, Tryz.ntmps22
 go_wp2_with fail
 refine HA.out.mono ?_
 rintro e w1 ⟨out, rfl, hA⟩
 obtain ⟨g, hs, hg⟩ := hA.sl
 have HB1 := jD hA.bel
 by_cases h0 : al.length = 0
 ·have ha0 : al = [] := List.eq_nil_of_length_eq_zero h0
  subst ha0
  obtain ⟨A, c, rfl, _⟩ := hs.shape
  have HN := jD (show ALst w1 w1.heap.size (.slice A 0 c) [] from ⟨⟨A, c, rfl, Nat.zero_le _⟩, (by simp), (fun a ha => (by cases ha)), fun h => absurd h (by simp)⟩)
  have HD := jD (deleteFuncA_nil A c)
  simp only [List.length_nil]
  clear hA hs hg HA
  go_wp2_with fail
  refine (HD.out _).mono ?_
  rintro e w2 ⟨rfl, rfl⟩
  go_wp2
  go_ret
  exact ⟨_, rfl, HN.out, HB1.out⟩
 ·obtain ⟨b, off, cap, h1, rfl, hR⟩ := hs.rw (actV_len al) (by simp) (by omega)
  have HD := jD (deleteFuncA goneB w1 b off cap w.heap.size al hR (by omega) (hg b h1) (fun x hx wc _ => gone_any x wc (by have := hsz x hx; unfold maxLen; omega)))
  have HF := jD (show ∀ w2, Rw w2 54 3 b off cap ((al.filter fun x => !goneB x).map encA) → ALst w2 w2.heap.size (.slice (some ⟨b, off, none⟩) (al.filter fun x => !goneB x).length cap) (al.filter fun x => !goneB x) from fun w2 h => h.alst (by have := List.length_filter_le (fun x => !goneB x) al; omega) (fun a ha => hsz a (List.mem_filter.1 ha).1))
  clear hA hs hg HA h1 hR
  go_wp2_with fail
  refine HD.out.mono ?_
  rintro e w2 ⟨rfl, hR2, hB2, hk2⟩
  have H2 := jD (And.intro (HF.out _ hR2) (HB1.out.trans hB2))
  clear hR2 hB2 hk2
  go_wp2
  go_ret
  exact ⟨_, rfl, H2.out.1, H2.out.2⟩
set_option maxHeartbeats 400000 in
theorem equalP_same (v v' : Value) (l : PL) (w : World) (B : Nat) (hl : Lst w B v l) (hl' : Lst w B v' l) :
  Calls Tryz.prog 18 #[v, v'] w fun e w' => e = .returned (.bool true) ∧ ∃ n, w' = w.drewN n := by
 obtain ⟨A, c, rfl, hc⟩ := hl.form
 obtain ⟨A', c', rfl, hc'⟩ := hl'.form
 have hby := hl.bytes
 have HL := jD hl
 have HL' := jD hl'
 have hne : ((l.length : Int) != (l.length : Int)) = false := by simp
 clear hl hl'
 go_enter Tryz.func18, Tryz.ntmps18
 go_wp2
 go_loopw [13] (fun i wr => ∃ k : Nat, k ≤ l.length ∧ i = .int .i64 k ∧ ∃ n, wr = w.drewN n) (fun i _ => l.length - (intOf i).toNat)
 case atStart => exact ⟨0, by omega, rfl, 0, rfl⟩
 case round =>
  obtain ⟨k, hk, rfl, n, rfl⟩ := hrel
  by_cases hlt : k < l.length
  ·obtain ⟨b, off, rfl, hb, c0, c1⟩ := HL.out.pt hlt
   obtain ⟨b', off', rfl, hb', c0', c1'⟩ := HL'.out.pt hlt
   go_wp2
   go_quiet (fail)
   go_wp2
   go_roundw
   case rel => exact ⟨k + 1, by omega, by go_num, n + nq, rfl⟩
   case measure => simp [intOf]; omega
  ·go_wp2
   go_ret
   exact ⟨rfl, _, rfl⟩
theorem laid_mem {P : Program} {w : World} {n : String} {d : DataW Unit} : ∀ {l : List (String × DataW Unit)} {ps : List MemPlace}, DataW.LaidVars P w l ps → (n, d) ∈ l →
  ∃ g t cs fuel p, P.globalNamed n = some g ∧ (P.globals[g]?).map (·.type) = some t ∧ w.var? P n = some cs ∧ DataW.trod (fun _ => ()) P w 0 (fun _ => true) false fuel t cs.toList = some (d, p)
 | [], _, _, h => by cases h
 | (m, e) :: l, ps, hl, h => by
  obtain ⟨g, t, cs, fuel, p, q, h1, h2, h3, h4, h5, _⟩ := hl
  rcases List.mem_cons.1 h with he | he
  ·cases he
   exact ⟨g, t, cs, fuel, p, h1, h2, h3, h4⟩
  ·exact laid_mem h5 he
theorem strs_of {P : Program} {w : World} {fuel : Nat} {t e : TypeId} {n : Nat} {cs : List Value} {ss : List (List UInt8)} {p : List MemPlace}
  (ht : P.underlying t = some (.array n e)) (he : P.underlying e = some .string) (hce : P.cellsOf e = 1) (hct : P.cellsOf t = n)
  (h : DataW.trod (fun _ => ()) P w 0 (fun _ => true) false fuel t cs = some (.agg (ss.map fun s => .lit (.string s)), p)) : cs = ss.map fun s => Value.string ⟨s.toArray⟩ := by
 cases fuel with
 | zero => simp [DataW.trod] at h
 | succ fuel =>
  simp only [DataW.trod, ht, hce, hct, Nat.mul_one] at h
  split at h
  ·obtain ⟨xs, hm, hx⟩ := Option.map_eq_some_iff.1 h
   have hxs : xs.map (·.1) = ss.map fun s => (DataW.lit (.string s) : DataW Unit) := by
    have := congrArg Prod.fst hx
    simpa using this
   have hxl : xs.length = n := by simpa using Lib.mapM_length hm
   have hzl : ss.length = n := by
    have := congrArg List.length hxs
    simp at this
    omega
   apply List.ext_getElem?
   intro i
   by_cases hi : i < n
   ·obtain ⟨b, hb, hf⟩ := Lib.mapM_at hm i i (by simp [hi])
    obtain ⟨z, hc, rfl, _⟩ := DataW.trod_string he hf
    have h1 : cs[i]? = some (.string z) := by
     have := congrArg (·[0]?) hc
     simpa [List.getElem?_take, List.getElem?_drop] using this
    have h2 : (xs.map (·.1))[i]? = some (DataW.lit (.string z.data.toList) : DataW Unit) := by simp [hb]
    rw [hxs] at h2
    simp only [List.getElem?_map, Option.map_eq_some_iff, DataW.lit.injEq, Lit.string.injEq] at h2
    obtain ⟨s, hs, rfl⟩ := h2
    simp [h1, hs]
   ·rw [List.getElem?_eq_none (by omega), List.getElem?_eq_none (by simp; omega)]
  ·cases h
theorem tab_of {P : Program} {w : World} {n : String} {l : List (String × DataW Unit)} {ss : List (List UInt8)} {g : Nat} {t e : TypeId} {m : Nat}
  (hg : P.globalNamed n = some g) (hty : (P.globals[g]?).map (·.type) = some t) (ht : P.underlying t = some (.array m e)) (he : P.underlying e = some .string) (hce : P.cellsOf e = 1) (hct : P.cellsOf t = m)
  (h : laidMet P l w) (hin : (n, DataW.agg (ss.map fun s => .lit (.string s))) ∈ l) : g < w.heap.size ∧ ∀ i, i < ss.length → w.cell? ⟨g, i, none⟩ = some (.string ⟨(ss.getD i []).toArray⟩) := by
 obtain ⟨ps, hl, _⟩ := h
 obtain ⟨g', t', cs, fuel, p, h1, h2, h3, h4⟩ := laid_mem hl hin
 obtain rfl := Option.some.inj (hg.symm.trans h1)
 obtain rfl := Option.some.inj (hty.symm.trans h2)
 have hcs := strs_of ht he hce hct h4
 refine ⟨?_, fun i hi => ?_⟩
 ·simp only [World.var?, hg, Option.bind_some] at h3
  split at h3
  ·rename_i hh
   exact (Array.getElem?_eq_some_iff.1 hh).1
  ·cases h3
 ·rw [World.var?_cell hg h3 i]
  have : cs[i]? = cs.toList[i]? := by simp
  rw [this, hcs]
  simp [List.getD, hi]
theorem words_of {l : List (String × DataW Unit)} {w : World} (h : laidMet Tryz.prog l w) (hin : ("tillerman/say.words", DataW.agg ((List.range 12).map fun k => .lit (.string (wordL k)))) ∈ l) : Words w := by
 have h2 : ("tillerman/say.words", DataW.agg (((List.range 12).map wordL).map fun s => .lit (.string s))) ∈ l := by
  rw [List.map_map]; exact hin
 obtain ⟨h3, h4⟩ := tab_of (P := Tryz.prog) (g := 1) (t := 125) (e := 9) (m := 12) (by kernel_rfl) (by kernel_rfl) Tryz.underlying125 Tryz.underlying9 (by kernel_rfl) (by kernel_rfl) h h2
 refine ⟨h3, fun k hk => ?_⟩
 rw [h4 k (by simp; omega)]
 have : ((List.range 12).map wordL).getD k [] = wordL k := by
  simp [List.getD, show k < 12 by omega]
 rw [this]; rfl
theorem leads_of {l : List (String × DataW Unit)} {w : World} (h : laidMet Tryz.prog l w) (hin : ("tillerman/say.leads", DataW.agg ((List.range 5).map fun k => .lit (.string (leadL k)))) ∈ l) : Leads w := by
 have h2 : ("tillerman/say.leads", DataW.agg (((List.range 5).map leadL).map fun s => .lit (.string s))) ∈ l := by
  rw [List.map_map]; exact hin
 obtain ⟨h3, h4⟩ := tab_of (P := Tryz.prog) (g := 0) (t := 103) (e := 9) (m := 5) (by kernel_rfl) (by kernel_rfl) Tryz.underlying103 Tryz.underlying9 (by kernel_rfl) (by kernel_rfl) h h2
 refine ⟨h3, fun k hk => ?_⟩
 rw [h4 k (by simp; omega)]
 have : ((List.range 5).map leadL).getD k [] = leadL k := by
  simp [List.getD, show k < 5 by omega]
 rw [this]; rfl
theorem tabs_of {w : World} (h1 : Words w) (h2 : Leads w) : Tabs w w.heap.size := ⟨h1, h2, h1.room, h2.room⟩
end Go.Proofs.YtpbaobmegomfpabGreatDoor
