/-
  Texts of the proof, one behind the other: PActs.
-/
import Derived.Test.YtpbaobmegomfpacGreatDoorM41
import Derived.Test.YtpbaobmegomfpacGreatDoorM27
import Derived.Test.YtpbaobmegomfpacGreatDoorM21
import Derived.Test.YtpbaobmegomfpacGreatDoorM19
import Derived.Deep.CutRange
import Derived.Deep.CutBlock
import Derived.Test.YtpbaobmegomfpacGreatDoorM1
set_option linter.unusedVariables false
set_option linter.unusedSimpArgs false
set_option maxRecDepth 100000
open List renaming getElem_toArray → gTA, getElem_cons_zero → gCZ, getElem_cons_succ → gCS, setIfInBounds_toArray → sTA, set_cons_zero → sCZ, set_cons_succ → sCS
open Go.Lib renaming hid → jD
open Nat renaming le_refl → nL
namespace Go.Proofs.YtpbaobmegomfpacGreatDoor
open Go.RowKit
theorem tdiv24 {n : Int} (h1 : -9223372036854775808 ≤ n) (h2 : n ≤ 9223372036854775807) : -9223372036854775808 ≤ n.tdiv 24 ∧ n.tdiv 24 ≤ 9223372036854775807 := by
 rcases Int.lt_or_le n 0 with h | h
 ·obtain ⟨a, rfl⟩ : ∃ a, n = -a := ⟨-n, by omega⟩
  rw [Int.neg_tdiv, Int.tdiv_eq_ediv_of_nonneg (by omega)]
  omega
 ·rw [Int.tdiv_eq_ediv_of_nonneg h]
  omega
theorem wrap64_id {n : Int} (h : -9223372036854775808 ≤ n ∧ n ≤ 9223372036854775807) : wrap64 n = n := by unfold wrap64; omega
theorem odd_get : ∀ (x : Nat) (h : x < [Value.string ⟨#[]⟩, .string ⟨#[119, 104, 97, 116]⟩, .string ⟨#[103, 101, 116]⟩, .string ⟨#[115, 101, 116, 32, 97]⟩, .string ⟨#[98, 101, 103, 105, 110, 32, 120]⟩].length), [Value.string ⟨#[]⟩, .string ⟨#[119, 104, 97, 116]⟩, .string ⟨#[103, 101, 116]⟩, .string ⟨#[115, 101, 116, 32, 97]⟩, .string ⟨#[98, 101, 103, 105, 110, 32, 120]⟩][x] = .string (oddT x)
 | 0, _ => rfl
 | 1, _ => rfl
 | 2, _ => rfl
 | 3, _ => rfl
 | 4, _ => rfl
theorem cells4 {w : World} {g t n : Nat} {a b c d : Value} (h : RowTo w g t n [a, b, c, d]) : w.cell? ⟨g, 0, none⟩ = some a ∧ w.cell? ⟨g, 1, none⟩ = some b ∧ w.cell? ⟨g, 2, none⟩ = some c ∧ w.cell? ⟨g, 3, none⟩ = some d := ⟨h.cell (j := 0) (by simp), h.cell (j := 1) (by simp), h.cell (j := 2) (by simp), h.cell (j := 3) (by simp)⟩
theorem act_row : (Tryz.prog.info? 45).map (fun i => (i.zero, i.size, i.bytes)) = some (some (.agg #[.int .i64 0, .int .i64 0, .string ⟨#[]⟩]), 3, 32) := by kernel_rfl
def actV (a : Act) : List Value := [.int .i64 a.kind, .int .i64 a.c, .string a.data]
structure ActsAt (w wr : World) (out : Value) (al : List Act) : Prop where
 sl : ∃ g, Sl wr 45 3 out g al.length (al.map actV).flatten ∧ ∀ b, g = some b → w.heap.size ≤ b
 bel : Below w.heap.size w wr
set_option maxHeartbeats 8000000 in
theorem acts_any (v : Value) (l : List Raw) (most n : Nat) (w : World) (hl : RLst w w.heap.size v l) (hWo : Words w) (hn : 0 < n) (hn6 : n ≤ 6) (hm : most ≤ 1000) :
  Calls Tryz.prog 13 #[v, .int .i64 most, .int .i64 n] w fun e w' => ∃ out, e = .returned out ∧ ActsAt w w' out (actsR l most n) := by
 obtain ⟨E, e, rfl, he⟩ := hl.form
 have hby := hl.bytes
 have HL := jD hl
 have HWo := jD hWo
 clear hl hWo
 go_enter Tryz.func13, Tryz.ntmps13
 go_wp2
 go_loopw [7, 8] (fun o j wr => ∃ k : Nat, k ≤ l.length ∧ k ≤ most ∧ j = .int .i64 k ∧ Hid (ActsAt w wr o (actsR l k n))) (fun _ j _ => l.length - (intOf j).toNat)
 case atStart => exact ⟨0, by omega, by omega, rfl, ⟨none, Sl.nil_ _ _ _, fun _ h => by cases h⟩, Below.refl _ _⟩
 case round =>
  obtain ⟨k, hk, hkm, rfl, HR⟩ := hrel
  by_cases hlt : k < l.length ∧ k < most
  ·obtain ⟨hlt, hltm⟩ := hlt
   have HS1 := jD (actsR_take (n := n) hlt hltm)
   have hwf := HL.out.wf l[k] (List.getElem_mem hlt)
   obtain ⟨b, off, rfl, hb, l0, l1, l2, l3⟩ := HL.out.pt hlt
   generalize hx : l[k] = x at *
   clear hx
   have bl := HR.out.bel
   have d0 := (bl.cell (p := ⟨b, off + k * 4, none⟩) hb).trans l0
   have d1 := (bl.cell (p := ⟨b, off + k * 4 + 1, none⟩) hb).trans l1
   have d2 := (bl.cell (p := ⟨b, off + k * 4 + 2, none⟩) hb).trans l2
   have d3 := (bl.cell (p := ⟨b, off + k * 4 + 3, none⟩) hb).trans l3
   have hbw : b < wr.heap.size := Nat.lt_of_lt_of_le hb bl.size
   obtain ⟨w1, w2, w3, w4⟩ := hwf
   have hcb := i64_bd w4
   have hkb := i64_bd w1
   have hab := i64_bd w2
   have HP := jD (fun wc => picked_any x.c n wc hcb.1 hcb.2 (by omega) (by omega))
   have HPC0 := jD (pickI_bd x.c (m := n) (by omega))
   have HAB := jD hab
   have HBW := jD bl
   have HT2 : Hid (∀ wc : World, Calls Tryz.prog 33 #[.agg #[.int .i64 x.kd, .int .i64 x.a, .int .i64 x.b, .int .i64 x.c]] wc fun e w' => e = .returned (.agg #[.int .i64 (reqR x).k, .string (reqR x).key, .string (reqR x).val]) ∧ Below wc.heap.size wc w') := jD fun wc => stmt_any x.kd x.a x.b x.c wc w1 w2 w3 w4
   have HB2 : Hid (∀ wc : World, Calls Tryz.prog 33 #[.agg #[.int .i64 (wrap64 (x.kd + 1)), .int .i64 (wrap64 (x.a + 1)), .int .i64 x.b, .int .i64 x.c]] wc fun e w' => e = .returned (.agg #[.int .i64 (reqR (bump x)).k, .string (reqR (bump x)).key, .string (reqR (bump x)).val]) ∧ Below wc.heap.size wc w') := jD fun wc => stmt_any _ _ x.b x.c wc (wrap64_wf _) (wrap64_wf _) w3 w4
   have HMS := jD (fun (wc : World) (hb : Below w.heap.size w wc) => message_any (reqR x) (reqR_ok x) wc (HWo.out.below hb))
   have HMB := jD (fun (wc : World) (hb : Below w.heap.size w wc) => message_any (reqR (bump x)) (reqR_ok (bump x)) wc (HWo.out.below hb))
   have hq24 : -9223372036854775808 ≤ x.kd.tdiv 24 ∧ x.kd.tdiv 24 ≤ 9223372036854775807 := tdiv24 hkb.1 hkb.2
   have hwb := pickI_bd (x.kd.tdiv 24) (m := 20) (by omega)
   obtain ⟨wy, hwy⟩ : ∃ wy : Nat, pickI (x.kd.tdiv 24) 20 = wy := ⟨(pickI (x.kd.tdiv 24) 20).toNat, by omega⟩
   have HWR := jD (show wayR x = wy by unfold wayR; rw [hwy]; rfl)
   have HWC := jD (show wy = 0 ∨ wy = 1 ∨ wy = 2 ∨ (3 ≤ wy ∧ wy < 6) ∨ wy = 6 ∨ 6 < wy by omega)
   have hwy2 := fun wc => picked_any (wrap64 (x.kd.tdiv 24)) 20 wc (i64_bd (wrap64_wf _)).1 (i64_bd (wrap64_wf _)).2 (by omega) (by omega)
   rw [show pickI (wrap64 (x.kd.tdiv 24)) 20 = wy by rw [wrap64_id hq24]; exact hwy] at hwy2
   have HWY := jD hwy2
   have HM1 := jD (And.intro (rawM_size x) (rawM_two x))
   have HM2 := jD (rawM_size (bump x))
   obtain ⟨m1, HQ1⟩ : ∃ m1, Hid (rawM x = m1) := ⟨_, jD rfl⟩
   obtain ⟨m2, HQ2⟩ : ∃ m2, Hid (rawM (bump x) = m2) := ⟨_, jD rfl⟩
   have hq1 : msg 81 (msgR (reqR x)) = m1 := HQ1.out
   have hq2 : msg 81 (msgR (reqR (bump x))) = m2 := HQ2.out
   rw [hq1] at HMS
   rw [hq2] at HMB
   rw [HQ1.out] at HM1
   rw [HQ2.out] at HM2
   obtain ⟨qk, HQK⟩ : ∃ qk, Hid ((reqR x).k = qk) := ⟨_, jD rfl⟩
   obtain ⟨qe, HQE⟩ : ∃ qe, Hid ((reqR x).key = qe) := ⟨_, jD rfl⟩
   obtain ⟨qv, HQV⟩ : ∃ qv, Hid ((reqR x).val = qv) := ⟨_, jD rfl⟩
   obtain ⟨uk, HUK⟩ : ∃ qk, Hid ((reqR (bump x)).k = qk) := ⟨_, jD rfl⟩
   obtain ⟨ue, HUE⟩ : ∃ qe, Hid ((reqR (bump x)).key = qe) := ⟨_, jD rfl⟩
   obtain ⟨uv, HUV⟩ : ∃ qv, Hid ((reqR (bump x)).val = qv) := ⟨_, jD rfl⟩
   obtain ⟨pc, HPC⟩ : ∃ pc, Hid (pickI x.c n = pc) := ⟨_, jD rfl⟩
   rw [HQK.out, HQE.out, HQV.out] at HMS HT2
   rw [HUK.out, HUE.out, HUV.out] at HMB HB2
   rw [HPC.out] at HP HPC0
   have n1 := (Below.refl wr.heap.size wr).alloc (nL _) (.cells #[.int .i64 x.kd, .int .i64 x.a, .int .i64 x.b, .int .i64 x.c] 69)
   have HB0 := jD (bel_add' bl n1 bl.size)
   have X0 := RowTo.whole wr #[.int .i64 x.kd, .int .i64 x.a, .int .i64 x.b, .int .i64 x.c] 69
   clear bl l0 l1 l2 l3 w1 w2 w3 w4 hcb hkb hq24 hwb hwy hwy2 hq1 hq2 HQK HQE HQV HUK HUE HUV
   go_wp2_with fail
   have x0 := X0.cell (j := 0) (by simp)
   have x1 := X0.cell (j := 1) (by simp)
   have x2 := X0.cell (j := 2) (by simp)
   have x3 := X0.cell (j := 3) (by simp)
   simp only [gCZ, gCS] at x0 x1 x2 x3
   have hXl := X0.lt
   refine wp_region_z 9 (fun wx => wx.cell? ⟨wr.heap.size, 0, none⟩ = some (.int .i64 x.kd) ∧ wx.cell? ⟨wr.heap.size, 1, none⟩ = some (.int .i64 x.a) ∧ wx.cell? ⟨wr.heap.size, 2, none⟩ = some (.int .i64 x.b) ∧ wx.cell? ⟨wr.heap.size, 3, none⟩ = some (.int .i64 x.c)) (by kernel_rfl) (show (wr.alloc (.cells #[.int .i64 x.kd, .int .i64 x.a, .int .i64 x.b, .int .i64 x.c] 69)).drew.cell? ⟨wr.heap.size, 0, none⟩ = some (.int .i64 x.kd) ∧ (wr.alloc (.cells #[.int .i64 x.kd, .int .i64 x.a, .int .i64 x.b, .int .i64 x.c] 69)).drew.cell? ⟨wr.heap.size, 1, none⟩ = some (.int .i64 x.a) ∧ (wr.alloc (.cells #[.int .i64 x.kd, .int .i64 x.a, .int .i64 x.b, .int .i64 x.c] 69)).drew.cell? ⟨wr.heap.size, 2, none⟩ = some (.int .i64 x.b) ∧ (wr.alloc (.cells #[.int .i64 x.kd, .int .i64 x.a, .int .i64 x.b, .int .i64 x.c] 69)).drew.cell? ⟨wr.heap.size, 3, none⟩ = some (.int .i64 x.c) from ⟨x0, x1, x2, x3⟩) (fun hS => ?_)
   refine tkE [(0, []), (1, []), (2, []), (4, [])] ?_
   iterate 4
    refine tkS (v := ?_) hS ?_ ?_
    rotate_left
    ·(intro w hSw; (try dsimp only at hSw); (try simp only [gTA, gCZ, gCS]); go_simp; try with_reducible rfl)
    (try simp only [gTA, gCZ, gCS, Act.put, sTA, sCZ, sCS])
   refine tkF ?_
   refine gridC (C := 4) (cop := fun c => match c with | 0 => 3 | 1 => 5 | 2 => 6 | _ => 7) (dst := fun c => match c with | 0 => 29 | 1 => 31 | 2 => 32 | _ => 33) (vals := fun c => match c with | 0 => .int .i64 pc | 1 => .agg #[.int .i64 qk, .string qe, .string qv] | 2 => .string m1 | _ => .agg #[.int .i64 1, .int .i64 pc, .string m1]) (p := 8) (dp := 10) (tp := 45) (zp := #[.int .i64 0, .int .i64 0, .string ⟨#[]⟩]) (L := fun c x => #[true, true, true, decide (0 < c), true, decide (1 < c), decide (2 < c), decide (3 < c), x, false]) (R := fun wc => Below (wr.alloc (.cells #[.int .i64 x.kd, .int .i64 x.a, .int .i64 x.b, .int .i64 x.c] 69)).heap.size (wr.alloc (.cells #[.int .i64 x.kd, .int .i64 x.a, .int .i64 x.b, .int .i64 x.c] 69)) wc) ⟨_, rfl, rfl, rfl, fun ev w => (by go_simp; rfl)⟩ ?rdy (by kernel_rfl) ?sc ?sp ?dn 1 (wr.alloc (.cells #[.int .i64 x.kd, .int .i64 x.a, .int .i64 x.b, .int .i64 x.c] 69)).heap.size (fun w1 w2 h1 h2 => bel_trans h1 h2) ?hS (fun w1 h1 => h1.size) ?st ?fin _ (Below.refl _ _).drew
   case rdy => (intro c y hc; rcases c with _ | _ | _ | _ | c; all_goals first | (exfalso; omega) | (cases y <;> kernel_rfl))
   case sc => (intro c y hc; rcases c with _ | _ | _ | _ | c; all_goals first | rfl | (exfalso; omega))
   case sp => (intro c hc; rcases c with _ | _ | _ | _ | _ | c; all_goals first | rfl | (exfalso; omega))
   case dn => (intro c hc; rcases c with _ | _ | _ | _ | c; all_goals first | decide | (exfalso; omega))
   case hS => (intro w1 h1; exact ⟨(h1.cell (p := ⟨wr.heap.size, 0, none⟩) hXl).trans x0, (h1.cell (p := ⟨wr.heap.size, 1, none⟩) hXl).trans x1, (h1.cell (p := ⟨wr.heap.size, 2, none⟩) hXl).trans x2, (h1.cell (p := ⟨wr.heap.size, 3, none⟩) hXl).trans x3⟩)
   case st =>
    intro c hc
    rcases c with _ | _ | _ | _ | c
    ·refine ⟨_, rfl, rfl, rfl, fun y wc hR => .inl ⟨31, #[.int .i64 x.c, .int .i64 n], ?_, ?_⟩⟩
     ·cases y <;> ((try simp only [fr1, putN, pt, gTA, gCZ, gCS, Go.Act.put, sTA, sCZ, sCS]); go_simp; try rfl)
     ·exact (HP.out wc).mono fun e w' h => ⟨h.1, by rw [← h.2]; exact Below.refl _ _⟩
    ·refine ⟨_, rfl, rfl, rfl, fun y wc hR => .inl ⟨33, #[.agg #[.int .i64 x.kd, .int .i64 x.a, .int .i64 x.b, .int .i64 x.c]], ?_, HT2.out wc⟩⟩
     cases y <;> ((try simp only [fr1, putN, pt, gTA, gCZ, gCS, Go.Act.put, sTA, sCZ, sCS]); go_simp; try rfl)
    ·refine ⟨_, rfl, rfl, rfl, fun y wc hR => .inl ⟨32, #[.agg #[.int .i64 qk, .string qe, .string qv]], ?_, HMS.out wc (bel_add' HB0.out hR HB0.out.size)⟩⟩
     cases y <;> ((try simp only [fr1, putN, pt, gTA, gCZ, gCS, Go.Act.put, sTA, sCZ, sCS]); go_simp; try rfl)
    ·refine ⟨_, rfl, rfl, rfl, fun y wc hR => .inr ?_⟩
     cases y <;> ((try simp only [fr1, putN, pt, gTA, gCZ, gCS, Go.Act.put, sTA, sCZ, sCS]); go_simp; try rfl)
    ·exfalso; omega
   case fin =>
    intro w6 Y hb6 hz6
    have hY0 := zs_row hz6
    have hYl := hY0.lt
    have hYX := (hz6 Y rfl).1
    obtain ⟨y0, y1, y2⟩ := cells3 hY0
    have f0 := hY0.frozen 0
    have f1 := hY0.frozen 1
    have f2 := hY0.frozen 2
    have hYX' : Y ≠ wr.heap.size := by rw [World.size_alloc] at hYX; omega
    have hX6 := X0.below hb6 hXl
    have hX7 := ((hX6.other (p := ⟨Y, 0, none⟩) hYX' (.int .i64 1)).other (p := ⟨Y, 1, none⟩) hYX' (.int .i64 pc)).other (p := ⟨Y, 2, none⟩) hYX' (.string m1)
    have hR7 := hY0.set3 (.int .i64 1) (.int .i64 pc) (.string m1)
    have hB7 := bel_set3 (n1.trans (hb6.mono n1.size)) (show wr.heap.size ≤ Y by rw [World.size_alloc] at hYX; omega) (.int .i64 1) (.int .i64 pc) (.string m1)
    (try simp only [fr1, putN, pt, gTA, gCZ, gCS, Go.Act.put, sTA, sCZ, sCS])
    refine wpAnyZ_last rfl rfl (by kernel_rfl) (by kernel_rfl) (fun K hK => ?_)
    (try simp only [gTA, gCZ, gCS])
    go_simp
    refine hK.out _ _ ?_
    clear hK K
    (try simp only [gTA, gCZ, gCS, Act.put, sTA, sCZ, sCS])
    obtain ⟨W7, HW7⟩ : ∃ u, Hid ((((w6.setCell ⟨Y, 0, none⟩ (.int .i64 1)).setCell ⟨Y, 1, none⟩ (.int .i64 pc)).setCell ⟨Y, 2, none⟩ (.string m1)) = u) := ⟨_, jD rfl⟩
    rw [HW7.out] at hX7 hR7 hB7 ⊢
    have HYX := jD hYX'
    have HYW := jD (show wr.heap.size ≤ Y by rw [World.size_alloc] at hYX; omega)
    clear HW7 hb6 hz6 hY0 y0 y1 y2 f0 f1 f2 hX6 hYl hYX hYX' x0 x1 x2 x3 hXl X0 n1
    have HX7 := jD hX7
    have HR7 := jD hR7
    have HB7 := jD hB7
    obtain ⟨x0, x1, x2, x3⟩ := cells4 hX7
    have hXl := hX7.lt
    have hYl := hR7.lt
    clear hX7 hR7 hB7
    go_wp2_with fail
    refine (HWY.out _).mono ?_
    rintro e w' ⟨rfl, rfl⟩
    go_upto_block 2 with fail
    go_cut [] from 11 to 97 (fun wx => RowTo wx Y 45 3 (actV (actR n x)) ∧ Below wr.heap.size wr wx)
    case first =>
     obtain ⟨y0, y1, y2⟩ := cells3 HR7.out
     have g0 := HR7.out.frozen 0
     have g1 := HR7.out.frozen 1
     have g2 := HR7.out.frozen 2
     have k0 := HX7.out.frozen 0
     have k1 := HX7.out.frozen 1
     have HK1 := jD (fun (W : World) (l : List Value) (hR : RowTo W Y 45 3 l) (hB : Below wr.heap.size wr W) (j : Nat) (hj : j < l.length) (u : Value) => (show RowTo (W.setCell ⟨Y, j, none⟩ u) Y 45 3 (l.set j u) ∧ Below wr.heap.size wr (W.setCell ⟨Y, j, none⟩ u) from ⟨hR.put hj u, hB.setCell (p := ⟨Y, j, none⟩) HYW.out u⟩))
     rcases HWC.out with h0 | h1 | h2 | h3 | h6 | h7
     ·have HA := jD (act_0 (n := n) (HWR.out.trans h0))
      subst h0
      as_aux_lemma =>
       go_wp2
       go_meet
       case rel =>
        rw [HA.out, HPC.out]
        have z := HK1.out _ _ HR7.out HB7.out 0 (by simp) (.int .i64 2)
        exact HK1.out _ _ z.1 z.2 2 (by simp) (.string ⟨#[]⟩)
     ·have HA := jD (act_1 (n := n) (HWR.out.trans h1))
      subst h1
      obtain ⟨p5, hp5, hp5l⟩ := pick_some x.a 5 (by omega)
      have HP5 := jD (fun wc => picked_any x.a 5 wc HAB.out.1 HAB.out.2 (by omega) (by omega))
      rw [show ((5 : Nat) : Int) = 5 from rfl] at hp5
      rw [hp5] at HP5 HA
      have HO5 := jD (show (p5 : Int) < 5 by omega)
      have HPK := jD (fun wc => pack_any 81 (oddT p5) wc (by have := oddT_size p5; omega))
      have hc5 : (W7.alloc (.cells #[.string ⟨#[]⟩, .string ⟨#[119, 104, 97, 116]⟩, .string ⟨#[103, 101, 116]⟩, .string ⟨#[115, 101, 116, 32, 97]⟩, .string ⟨#[98, 101, 103, 105, 110, 32, 120]⟩] 9)).cell? ⟨W7.heap.size, p5, none⟩ = some (.string (oddT p5)) := by
       have h := (RowTo.whole W7 #[.string ⟨#[]⟩, .string ⟨#[119, 104, 97, 116]⟩, .string ⟨#[103, 101, 116]⟩, .string ⟨#[115, 101, 116, 32, 97]⟩, .string ⟨#[98, 101, 103, 105, 110, 32, 120]⟩] 9).cell (j := p5) (by simpa using hp5l)
       rw [odd_get p5 hp5l] at h
       exact h
      have hp5I : (p5 : Int) < 5 := by omega
      clear hp5
      go_wp2_with fail
      refine (HP5.out _).mono ?_
      rintro e w5 ⟨rfl, rfl⟩
      go_wp2_with fail
      refine (HPK.out _).mono ?_
      rintro e w8 ⟨rfl, hb8⟩
      have kb := bel_trans ((Below.refl W7.heap.size W7).alloc (nL _) _) hb8
      have hR8 := HR7.out.below kb hYl
      have hB8 := bel_add' HB7.out kb HB7.out.size
      have q2 := (cells3 hR8).2.2
      have k2 := hR8.frozen 2
      have hY8 := hR8.lt
      clear hb8 kb
      go_wp2
      go_meet
      case rel =>
       rw [HA.out, HPC.out]
       exact HK1.out _ _ hR8 hB8 2 (by simp) _
     ·have HA := jD (act_2 (n := n) (HWR.out.trans h2))
      subst h2
      have HPK := jD (fun wc => pack_any 88 ⟨#[]⟩ wc (by decide))
      as_aux_lemma =>
       go_wp2_with fail
       refine (HPK.out _).mono ?_
       rintro e w8 ⟨rfl, kb⟩
       have hR8 := HR7.out.below kb hYl
       have hB8 := bel_add' HB7.out kb HB7.out.size
       have q2 := (cells3 hR8).2.2
       have k2 := hR8.frozen 2
       have hY8 := hR8.lt
       clear kb
       go_wp2
       go_meet
       case rel =>
        rw [HA.out, HPC.out]
        exact HK1.out _ _ hR8 hB8 2 (by simp) _
     ·have HA := jD (act_3 (n := n) (show 3 ≤ wayR x ∧ wayR x < 6 by rw [HWR.out]; exact h3))
      have HAD : Hid (m1.size + m2.size ≤ 124) := jD (by have := HM1.out.1; have := HM2.out; omega)
      have hsum := fun W => run_string_add_sum (P := Tryz.prog) W m1 m2 (by have := HAD.out; omega)
      obtain rfl | rfl | rfl : wy = 3 ∨ wy = 4 ∨ wy = 5 := by omega
      all_goals (as_aux_lemma =>
       go_upto_region 19 with fail
       have hX8 := (HX7.out.put (j := 0) (by simp) (.int .i64 (wrap64 (x.kd + 1)))).put (j := 1) (by simp) (.int .i64 (wrap64 (x.a + 1)))
       have hR8 := (HR7.out.other (p := ⟨wr.heap.size, 0, none⟩) (Ne.symm HYX.out) (.int .i64 (wrap64 (x.kd + 1)))).other (p := ⟨wr.heap.size, 1, none⟩) (Ne.symm HYX.out) (.int .i64 (wrap64 (x.a + 1)))
       have hB8 := (HB7.out.setCell (p := ⟨wr.heap.size, 0, none⟩) (nL _) (.int .i64 (wrap64 (x.kd + 1)))).setCell (p := ⟨wr.heap.size, 1, none⟩) (nL _) (.int .i64 (wrap64 (x.a + 1)))
       obtain ⟨W8, HW8⟩ : ∃ u, Hid ((W7.setCell ⟨wr.heap.size, 0, none⟩ (.int .i64 (wrap64 (x.kd + 1)))).setCell ⟨wr.heap.size, 1, none⟩ (.int .i64 (wrap64 (x.a + 1))) = u) := ⟨_, jD rfl⟩
       rw [HW8.out] at hX8 hR8 hB8 ⊢
       simp only [sCZ, sCS] at hX8
       have HR8 := jD hR8
       have HB8 := jD hB8
       obtain ⟨p0, p1, p2, p3⟩ := cells4 hX8
       have q2 := (cells3 hR8).2.2
       have hXl8 := hX8.lt
       have hYl8 := hR8.lt
       clear HW8 hX8 hR8 hB8 k0 k1 x0 x1 x2 x3 y0 y1 y2 g0 g1 g2 hXl hYl
       refine wp_region_z 7 (fun wx => wx.cell? ⟨wr.heap.size, 0, none⟩ = some (.int .i64 (wrap64 (x.kd + 1))) ∧ wx.cell? ⟨wr.heap.size, 1, none⟩ = some (.int .i64 (wrap64 (x.a + 1))) ∧ wx.cell? ⟨wr.heap.size, 2, none⟩ = some (.int .i64 x.b) ∧ wx.cell? ⟨wr.heap.size, 3, none⟩ = some (.int .i64 x.c) ∧ wx.cell? ⟨Y, 2, none⟩ = some (.string m1)) (by kernel_rfl) (show W8.drew.cell? ⟨wr.heap.size, 0, none⟩ = some (.int .i64 (wrap64 (x.kd + 1))) ∧ W8.drew.cell? ⟨wr.heap.size, 1, none⟩ = some (.int .i64 (wrap64 (x.a + 1))) ∧ W8.drew.cell? ⟨wr.heap.size, 2, none⟩ = some (.int .i64 x.b) ∧ W8.drew.cell? ⟨wr.heap.size, 3, none⟩ = some (.int .i64 x.c) ∧ W8.drew.cell? ⟨Y, 2, none⟩ = some (.string m1) from ⟨p0, p1, p2, p3, q2⟩) (fun hS => ?_)
       refine wpAnyZ_take (i := 0) (v := ?_) rfl (by kernel_rfl) (by kernel_rfl) (by kernel_rfl) (by kernel_rfl) (fun _ _ _ h => h) (Or.inl ⟨by rfl, ?_⟩) hS ?_
       rotate_left
       ·(intro w hSw; (try dsimp only at hSw); (try simp only [gTA, gCZ, gCS]); go_simp; try with_reducible rfl)
       (try simp only [gTA, gCZ, gCS, Act.put, sTA, sCZ, sCS])
       refine wpAnyZ_take (i := 1) (v := ?_) rfl (by kernel_rfl) (by kernel_rfl) (by kernel_rfl) (by kernel_rfl) (fun _ _ _ h => h) (Or.inl ⟨by rfl, ?_⟩) hS ?_
       rotate_left
       ·(intro w hSw; (try dsimp only at hSw); (try simp only [gTA, gCZ, gCS]); go_simp; try with_reducible rfl)
       (try simp only [gTA, gCZ, gCS, Act.put, sTA, sCZ, sCS])
       refine wpAnyZ_take (i := 2) (v := ?_) rfl (by kernel_rfl) (by kernel_rfl) (by kernel_rfl) (by kernel_rfl) (fun _ _ _ h => h) (Or.inl ⟨by rfl, ?_⟩) hS ?_
       rotate_left
       ·(intro w hSw; (try dsimp only at hSw); (try simp only [gTA, gCZ, gCS]); go_simp; try with_reducible rfl)
       (try simp only [gTA, gCZ, gCS, Act.put, sTA, sCZ, sCS])
       refine wpAnyZ_one (i := 3) rfl rfl (by kernel_rfl) (fun K hK => ?_)
       (try simp only [gTA, gCZ, gCS])
       go_simp
       refine (HB2.out _).mono ?_
       rintro e w9 ⟨rfl, hb9⟩
       have kb := bel_add' (Below.refl W8.heap.size W8).drew hb9 (nL _)
       clear hb9
       go_simp
       have hS2 := (show w9.cell? ⟨wr.heap.size, 0, none⟩ = some (.int .i64 (wrap64 (x.kd + 1))) ∧ w9.cell? ⟨wr.heap.size, 1, none⟩ = some (.int .i64 (wrap64 (x.a + 1))) ∧ w9.cell? ⟨wr.heap.size, 2, none⟩ = some (.int .i64 x.b) ∧ w9.cell? ⟨wr.heap.size, 3, none⟩ = some (.int .i64 x.c) ∧ w9.cell? ⟨Y, 2, none⟩ = some (.string m1) from ⟨(kb.cell (p := ⟨wr.heap.size, 0, none⟩) hXl8).trans p0, (kb.cell (p := ⟨wr.heap.size, 1, none⟩) hXl8).trans p1, (kb.cell (p := ⟨wr.heap.size, 2, none⟩) hXl8).trans p2, (kb.cell (p := ⟨wr.heap.size, 3, none⟩) hXl8).trans p3, (kb.cell (p := ⟨Y, 2, none⟩) hYl8).trans q2⟩)
       refine hK.out _ _ hS2 ?_
       clear hK K hS
       have hS := hS2
       clear hS2
       (try simp only [gTA, gCZ, gCS, Act.put, sTA, sCZ, sCS])
       refine wpAnyZ_one (i := 4) rfl rfl (by kernel_rfl) (fun K hK => ?_)
       (try simp only [gTA, gCZ, gCS])
       go_simp
       refine (HMB.out _ (bel_add' (bel_add' HBW.out HB8.out HBW.out.size) kb (bel_add' HBW.out HB8.out HBW.out.size).size)).mono ?_
       rintro e w10 ⟨rfl, hb10⟩
       have kb2 := bel_add' kb hb10 kb.size
       clear hb10
       go_simp
       have hS2 := (show w10.cell? ⟨wr.heap.size, 0, none⟩ = some (.int .i64 (wrap64 (x.kd + 1))) ∧ w10.cell? ⟨wr.heap.size, 1, none⟩ = some (.int .i64 (wrap64 (x.a + 1))) ∧ w10.cell? ⟨wr.heap.size, 2, none⟩ = some (.int .i64 x.b) ∧ w10.cell? ⟨wr.heap.size, 3, none⟩ = some (.int .i64 x.c) ∧ w10.cell? ⟨Y, 2, none⟩ = some (.string m1) from ⟨(kb2.cell (p := ⟨wr.heap.size, 0, none⟩) hXl8).trans p0, (kb2.cell (p := ⟨wr.heap.size, 1, none⟩) hXl8).trans p1, (kb2.cell (p := ⟨wr.heap.size, 2, none⟩) hXl8).trans p2, (kb2.cell (p := ⟨wr.heap.size, 3, none⟩) hXl8).trans p3, (kb2.cell (p := ⟨Y, 2, none⟩) hYl8).trans q2⟩)
       refine hK.out _ _ hS2 ?_
       clear hK K hS
       have hS := hS2
       clear hS2
       (try simp only [gTA, gCZ, gCS, Act.put, sTA, sCZ, sCS])
       refine wpAnyZ_take (i := 5) (v := ?_) rfl (by kernel_rfl) (by kernel_rfl) (by kernel_rfl) (by kernel_rfl) (fun _ _ _ h => h) (Or.inl ⟨by rfl, ?_⟩) hS ?_
       rotate_left
       ·(intro w hSw; (try dsimp only at hSw); (try simp only [gTA, gCZ, gCS]); go_simp; try with_reducible rfl)
       (try simp only [gTA, gCZ, gCS, Act.put, sTA, sCZ, sCS])
       refine wpAnyZ_take (i := 6) (v := ?_) rfl (by kernel_rfl) (by kernel_rfl) (by kernel_rfl) (by kernel_rfl) (fun _ _ _ h => h) (Or.inl ⟨by rfl, ?_⟩) hS ?_
       rotate_left
       ·(intro w hSw; (try dsimp only at hSw); (try simp only [gTA, gCZ, gCS]); go_simp; try with_reducible rfl)
       (try simp only [gTA, gCZ, gCS, Act.put, sTA, sCZ, sCS])
       have hR9 := HR8.out.below kb2 hYl8
       have hB9 := bel_add' HB8.out kb2 HB8.out.size
       have u2 := (cells3 hR9).2.2
       have z2 := hR9.frozen 2
       refine wpAnyZ_last rfl rfl (by kernel_rfl) (by kernel_rfl) (fun K hK => ?_)
       (try simp only [gTA, gCZ, gCS])
       go_simp
       refine hK.out _ _ ?_
       clear hK K
       (try simp only [gTA, gCZ, gCS, Act.put, sTA, sCZ, sCS])
       go_wp2
       go_meet
       case rel =>
        rw [HA.out, HPC.out, HQ1.out, HQ2.out]
        exact HK1.out _ _ hR9 hB9 2 (by simp) _
       )
     ·have HA := jD (act_6 (n := n) (HWR.out.trans h6))
      subst h6
      have hmx : max 1 (m1.size : Int) = m1.size := by have := HM1.out.2; omega
      have hmn : (max 1 m1.size : Nat) = m1.size := by have := HM1.out.2; omega
      rw [HQ1.out, hmn] at HA
      obtain ⟨p6, hp6, hp6l⟩ := pick_some x.a m1.size (by have := HM1.out.2; omega)
      have HP6 := jD (fun wc => picked_any x.a (m1.size : Int) wc HAB.out.1 HAB.out.2 (by omega) (by have := HM1.out.1; omega))
      rw [hp6] at HP6 HA
      have hp6I : (p6 : Int) ≤ (m1.size : Int) := by omega
      clear hp6
      go_upto_region 21 with fail
      as_aux_lemma =>
       refine wp_region_z 11 (fun wx => wx.cell? ⟨wr.heap.size, 1, none⟩ = some (.int .i64 x.a) ∧ wx.cell? ⟨Y, 2, none⟩ = some (.string m1)) (by kernel_rfl) (show W7.drew.cell? ⟨wr.heap.size, 1, none⟩ = some (.int .i64 x.a) ∧ W7.drew.cell? ⟨Y, 2, none⟩ = some (.string m1) from ⟨x1, y2⟩) (fun hS => ?_)
       refine tkE [(0, []), (1, []), (2, []), (3, []), (4, []), (5, []), (6, []), (7, [])] ?_
       iterate 8
        refine tkS (v := ?_) hS ?_ ?_
        rotate_left
        ·(intro w hSw; (try dsimp only at hSw); (try simp only [gTA, gCZ, gCS]); go_simp; try with_reducible rfl)
        (try simp only [gTA, gCZ, gCS, Act.put, sTA, sCZ, sCS])
       refine tkF ?_
       refine wpAnyZ_one (i := 8) rfl rfl (by kernel_rfl) (fun K hK => ?_)
       (try simp only [gTA, gCZ, gCS])
       go_simp
       refine (HP6.out _).mono ?_
       rintro e w9 ⟨rfl, rfl⟩
       go_simp
       have hS2 := (show W7.drew.cell? ⟨wr.heap.size, 1, none⟩ = some (.int .i64 x.a) ∧ W7.drew.cell? ⟨Y, 2, none⟩ = some (.string m1) from ⟨x1, y2⟩)
       refine hK.out _ _ hS2 ?_
       clear hK K hS
       have hS := hS2
       clear hS2
       (try simp only [gTA, gCZ, gCS, Act.put, sTA, sCZ, sCS])
       refine tkE [(9, []), (10, [])] ?_
       iterate 2
        refine tkS (v := ?_) hS ?_ ?_
        rotate_left
        ·(intro w hSw; (try dsimp only at hSw); (try simp only [gTA, gCZ, gCS]); go_simp; try with_reducible rfl)
        (try simp only [gTA, gCZ, gCS, Act.put, sTA, sCZ, sCS])
       refine tkF ?_
       refine wpAnyZ_last rfl rfl (by kernel_rfl) (by kernel_rfl) (fun K hK => ?_)
       (try simp only [gTA, gCZ, gCS])
       go_simp
       refine hK.out _ _ ?_
       clear hK K
       (try simp only [gTA, gCZ, gCS, Act.put, sTA, sCZ, sCS])
       go_wp2
       go_meet
       case rel =>
        rw [HA.out, HPC.out]
        simp only [Int.toNat_natCast]
        have z := HK1.out _ _ HR7.out HB7.out 2 (by simp) (.string (m1.extract 0 p6))
        exact ⟨z.1.below ((Below.refl _ _).drew) z.1.lt, z.2.drew⟩
     ·have HA := jD (act_7 (n := n) (show 6 < wayR x by rw [HWR.out]; exact h7))
      have t0 : ((wy : Int) == 0) = false := beq_eq_false_iff_ne.2 (by omega)
      have t1 : ((wy : Int) == 1) = false := beq_eq_false_iff_ne.2 (by omega)
      have t2 : ((wy : Int) == 2) = false := beq_eq_false_iff_ne.2 (by omega)
      have t3 : ((wy : Int) == 3) = false := beq_eq_false_iff_ne.2 (by omega)
      have t4 : ((wy : Int) == 4) = false := beq_eq_false_iff_ne.2 (by omega)
      have t5 : ((wy : Int) == 5) = false := beq_eq_false_iff_ne.2 (by omega)
      have t6 : ((wy : Int) == 6) = false := beq_eq_false_iff_ne.2 (by omega)
      as_aux_lemma =>
       go_wp2
       go_meet
       case rel =>
        rw [HA.out, HPC.out, HQ1.out]
        exact ⟨HR7.out, HB7.out⟩
    case rest =>
     obtain ⟨hR, hB⟩ := hcut
     obtain ⟨g, hs, hg⟩ := HR.out.sl
     have hbs := HR.out.bel.size
     have hbs2 := hB.size
     obtain ⟨i0, hi, hz0, hz1, hz2⟩ := info_parts act_row
     have hlk := actsR_len (l := l) (most := k) (n := n)
     generalize actR n x = t at *
     obtain ⟨tk, tc, td⟩ := t
     have hR' : RowTo wc Y 45 3 [.int .i64 tk, .int .i64 tc, .string td] := hR
     obtain ⟨y0, y1, y2⟩ := cells3 hR'
     have hYl2 := hR'.lt
     have nd := (Below.refl wc.heap.size wc).alloc (nL _) (.cells #[.int .i64 tk, .int .i64 tc, .string td] 45)
     have hXd := RowTo.whole wc #[.int .i64 tk, .int .i64 tc, .string td] 45
     obtain ⟨b', off', cap, w8, hrun, hs8, hgr, hb8⟩ := ((hs.below (hB.mono (nL _))).below nd).append (P := Tryz.prog) 33 33 i0 _ 32 Tryz.underlying33 hi hz0 hz1 hz2 rfl (by omega) ⟨wc.heap.size, 0, none⟩ 1 [.int .i64 tk, .int .i64 tc, .string td] rfl (fun j u hu => by
      obtain ⟨hj, hu⟩ := List.getElem?_eq_some_iff.1 hu
      rw [← hu]
      rw [Addr.add_lit, Nat.zero_add]
      exact hXd.cell (j := j) hj) (fun u hu => by simp at hu; rcases hu with rfl | rfl | rfl <;> rfl) (by unfold maxLen; omega) (by omega)
     have HF : Hid (ActsAt w w8 (.slice (some ⟨b', off', none⟩) ((actsR l k n).length + 1) cap) (actsR l (k + 1) n)) := jD (by
      rw [HS1.out]
      refine ⟨⟨some b', ?_, fun y hy => ?_⟩, ?_⟩
      ·rw [List.length_append, List.map_append, List.flatten_append]; exact hs8
      ·injection hy with hy; subst hy
       rcases hb8 with h | h
       ·exact hg _ h
       ·have := h.1; rw [World.size_alloc] at this; omega
      ·exact (bel_add' (bel_add' HR.out.bel hB hbs) nd (by omega)).grown hgr (by rw [World.size_alloc]; omega) (fun y hy => hg y hy))
     obtain ⟨A', c', hv', _⟩ := hs.shape
     clear hs hR hR' hB hs8 hgr hb8 hXd nd hi hz0 hz1 hz2 hg hbs hbs2 HR7 HX7 HB7 HMS HMB HB2 HT2 HP HWY
     generalize (actsR l k n).length = nk at *
     subst hv'
     go_wp2_with (at_builtin; refine Lib.wpList_append_run _ rfl _ _ _ _ rfl _ _ rfl rfl _ _ hrun ?_)
     go_roundw
     case rel => exact ⟨k + 1, by omega, by omega, by go_num, HF.out⟩
     case measure => simp [intOf]; omega
  ·have HTK := jD (show actsR l k n = actsR l most n by
    unfold actsR
    by_cases h : k < l.length
    ·rw [show k = most by omega]
    ·rw [List.take_of_length_le (show l.length ≤ most by omega), List.take_of_length_le (show l.length ≤ k by omega)])
   by_cases h1 : k < l.length
   ·have h2 : ¬ k < most := fun h => hlt ⟨h1, h⟩
    clear hlt
    go_wp2
    go_ret
    exact ⟨_, rfl, by rw [← HTK.out]; exact HR.out⟩
   ·clear hlt
    go_wp2
    go_ret
    exact ⟨_, rfl, by rw [← HTK.out]; exact HR.out⟩
end Go.Proofs.YtpbaobmegomfpacGreatDoor
