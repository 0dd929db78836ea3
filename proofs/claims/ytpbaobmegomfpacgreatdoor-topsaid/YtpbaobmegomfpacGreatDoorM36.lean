/-
  Texts of the proof, one behind the other: PRel2, DelN.
-/
import Derived.Test.YtpbaobmegomfpacGreatDoorM30
import Derived.Test.YtpbaobmegomfpacGreatDoorM21
import Derived.Test.YtpbaobmegomfpacGreatDoorM19
import Derived.Test.YtpbaobmegomfpacGreatDoorRows
import Derived.WalkKit
import Derived.WalkSpells
import Derived.WalkLawsBesides
import Derived.Lib.Hide
import Derived.IntWalk
import Derived.WalkSmall
import Derived.Deep.Upon
import Derived.Test.YtpbaobmegomfpacGreatDoorM1
set_option linter.unusedVariables false
set_option linter.unusedSimpArgs false
set_option maxRecDepth 100000
open List renaming getElem_toArray → gTA, getElem_cons_zero → gCZ, getElem_cons_succ → gCS, setIfInBounds_toArray → sTA, set_cons_zero → sCZ, set_cons_succ → sCS
open Go.Lib renaming hid → jD
open Nat renaming le_refl → nL
namespace Go.Proofs.YtpbaobmegomfpacGreatDoor
open Go.RowKit
section
variable {base P : Nat} {f : Nat → Value} {G : Nat → Option Nat} {mode : Int} {m : Mach PE}
set_option maxHeartbeats 4000000 in
theorem release_keeps (w : World) (h : PMem 0 w base P f G mode m) (hm : MOk mode m) (hp : m.e.w.ss.length = m.busy.length) (hk6 : m.e.kept.length = 6) {c s : Nat} (hc : c < 6) (hs : (m.get c).srv = some s) :
  Calls Tryz.prog 73 #[ptr P 0, ptr P (4 + c * 6)] w fun e w' => ∃ f', e = .returned (.tuple #[]) ∧ PMem 0 w' base P f' G mode (m.release poolO c s) ∧ Below base w w' ∧ KeepF G w w' := by
 have hP := h.row.lt
 have hbP := (h.lo 0 P h.p0).1
 have hb := (List.getElem?_eq_some_iff.1 (hm.srv c s hs)).1
 have hlt : s < m.e.w.ss.length := by omega
 obtain ⟨q, hq, hqs⟩ := h.srv c hc
 obtain rfl := hqs s hs
 obtain ⟨gB, oB, cB, hf2, hFB, hgB, hcs⟩ := h.wld.at (by omega)
 obtain ⟨v1, v2, v3, v4, sB, i1, i2, i3, i4⟩ := hcs s hlt
 have a2 := h.row.cell (j := 2) (by omega)
 rw [hf2] at a2
 have a3 := h.row.cell (j := 4 + c * 6 + 3) (by omega)
 rw [hq] at a3
 obtain ⟨q0, q1, q2, q3, q4, l1, l2, l3, l4⟩ := sB
 obtain ⟨E1, e1, rfl, hE1⟩ := l1.form
 obtain ⟨E2, e2, rfl, hE2⟩ := l2.form
 obtain ⟨E3, e3, rfl, hE3⟩ := l3.form
 obtain ⟨E4, e4, rfl, hE4⟩ := l4.form
 have hbd := h.wld.wld.sess.bytes
 have hsI : (s : Int) < (m.e.w.ss.length : Int) := by omega
 have HH := jD h
 have HP0 := jD h.p0
 have HL1 := jD (And.intro l1 i1)
 have HL2 := jD (And.intro l2 i2)
 have hat := at_lt hlt
 have HK6 := jD hk6
 have HN6 := jD hm.n6
 have HHB := jD hb
 have HSR := jD hs
 obtain ⟨S, HS⟩ : ∃ S, Hid (m.e.w.ss[s] = S) := ⟨_, jD rfl⟩
 rw [HS.out] at q0 q1 q2 q3 q4 HL1 HL2 hat
 have HAT := jD hat
 clear hat
 clear h hm hp hk6 hs hq hqs hf2 hFB hcs l1 l2 l3 l4 i1 i2 i3 i4 hE1 hE2 hE3 hE4 hb HS hlt
 generalize m.e.w.ss.length = n2 at *
 unfold ptr
 go_enter Tryz.func73, Tryz.ntmps73
 go_wp2_with fail
 refine wp_region_z 12 (fun wx => wx.cell? ⟨P, 2, none⟩ = some (.slice (some ⟨gB, oB, none⟩) n2 cB) ∧ wx.cell? ⟨P, 4 + c * 6 + 3, none⟩ = some (.int .i64 s) ∧ wx.cell? ⟨gB, oB + s * 5, none⟩ = some (.int .i64 S.st) ∧ wx.cell? ⟨gB, oB + s * 5 + 1, none⟩ = some (.slice E1 S.set.length e1) ∧ wx.cell? ⟨gB, oB + s * 5 + 2, none⟩ = some (.slice E2 S.prep.length e2) ∧ wx.cell? ⟨gB, oB + s * 5 + 3, none⟩ = some (.slice E3 S.sav.length e3) ∧ wx.cell? ⟨gB, oB + s * 5 + 4, none⟩ = some (.slice E4 S.wr.length e4)) (by kernel_rfl) (show w.drew.cell? ⟨P, 2, none⟩ = some (.slice (some ⟨gB, oB, none⟩) n2 cB) ∧ w.drew.cell? ⟨P, 4 + c * 6 + 3, none⟩ = some (.int .i64 s) ∧ w.drew.cell? ⟨gB, oB + s * 5, none⟩ = some (.int .i64 S.st) ∧ w.drew.cell? ⟨gB, oB + s * 5 + 1, none⟩ = some (.slice E1 S.set.length e1) ∧ w.drew.cell? ⟨gB, oB + s * 5 + 2, none⟩ = some (.slice E2 S.prep.length e2) ∧ w.drew.cell? ⟨gB, oB + s * 5 + 3, none⟩ = some (.slice E3 S.sav.length e3) ∧ w.drew.cell? ⟨gB, oB + s * 5 + 4, none⟩ = some (.slice E4 S.wr.length e4) from ⟨a2, a3, q0, q1, q2, q3, q4⟩) (fun hS => ?_)
 refine tkE [(0, []), (1, []), (2, []), (3, []), (4, []), (5, []), (6, []), (7, []), (8, []), (9, []), (10, [])] ?_
 iterate 11
  refine tkS (v := ?_) hS ?_ ?_
  rotate_left
  ·(intro w hSw; (try dsimp only at hSw); (try simp only [gTA, gCZ, gCS]); go_simp; try with_reducible rfl)
  (try simp only [gTA, gCZ, gCS, Act.put, sTA, sCZ, sCS])
 refine tkF ?_
 refine wpAnyZ_one (i := 11) rfl rfl (by kernel_rfl) (fun K hK => ?_)
 (try simp only [gTA, gCZ, gCS])
 go_simp
 have hS2 := (show (w.drew.alloc (.cells #[.int .i64 0, .slice none 0 0, .slice none 0 0, .slice none 0 0, .slice none 0 0] 144)).cell? ⟨P, 2, none⟩ = some (.slice (some ⟨gB, oB, none⟩) n2 cB) ∧ (w.drew.alloc (.cells #[.int .i64 0, .slice none 0 0, .slice none 0 0, .slice none 0 0, .slice none 0 0] 144)).cell? ⟨P, 4 + c * 6 + 3, none⟩ = some (.int .i64 s) ∧ (w.drew.alloc (.cells #[.int .i64 0, .slice none 0 0, .slice none 0 0, .slice none 0 0, .slice none 0 0] 144)).cell? ⟨gB, oB + s * 5, none⟩ = some (.int .i64 S.st) ∧ (w.drew.alloc (.cells #[.int .i64 0, .slice none 0 0, .slice none 0 0, .slice none 0 0, .slice none 0 0] 144)).cell? ⟨gB, oB + s * 5 + 1, none⟩ = some (.slice E1 S.set.length e1) ∧ (w.drew.alloc (.cells #[.int .i64 0, .slice none 0 0, .slice none 0 0, .slice none 0 0, .slice none 0 0] 144)).cell? ⟨gB, oB + s * 5 + 2, none⟩ = some (.slice E2 S.prep.length e2) ∧ (w.drew.alloc (.cells #[.int .i64 0, .slice none 0 0, .slice none 0 0, .slice none 0 0, .slice none 0 0] 144)).cell? ⟨gB, oB + s * 5 + 3, none⟩ = some (.slice E3 S.sav.length e3) ∧ (w.drew.alloc (.cells #[.int .i64 0, .slice none 0 0, .slice none 0 0, .slice none 0 0, .slice none 0 0] 144)).cell? ⟨gB, oB + s * 5 + 4, none⟩ = some (.slice E4 S.wr.length e4) from ⟨((((Below.refl w.heap.size w).drew).alloc (nL _) (.cells #[.int .i64 0, .slice none 0 0, .slice none 0 0, .slice none 0 0, .slice none 0 0] 144)).cell (p := ⟨P, 2, none⟩) hP).trans a2, ((((Below.refl w.heap.size w).drew).alloc (nL _) (.cells #[.int .i64 0, .slice none 0 0, .slice none 0 0, .slice none 0 0, .slice none 0 0] 144)).cell (p := ⟨P, 4 + c * 6 + 3, none⟩) hP).trans a3, ((((Below.refl w.heap.size w).drew).alloc (nL _) (.cells #[.int .i64 0, .slice none 0 0, .slice none 0 0, .slice none 0 0, .slice none 0 0] 144)).cell (p := ⟨gB, oB + s * 5, none⟩) hgB).trans q0, ((((Below.refl w.heap.size w).drew).alloc (nL _) (.cells #[.int .i64 0, .slice none 0 0, .slice none 0 0, .slice none 0 0, .slice none 0 0] 144)).cell (p := ⟨gB, oB + s * 5 + 1, none⟩) hgB).trans q1, ((((Below.refl w.heap.size w).drew).alloc (nL _) (.cells #[.int .i64 0, .slice none 0 0, .slice none 0 0, .slice none 0 0, .slice none 0 0] 144)).cell (p := ⟨gB, oB + s * 5 + 2, none⟩) hgB).trans q2, ((((Below.refl w.heap.size w).drew).alloc (nL _) (.cells #[.int .i64 0, .slice none 0 0, .slice none 0 0, .slice none 0 0, .slice none 0 0] 144)).cell (p := ⟨gB, oB + s * 5 + 3, none⟩) hgB).trans q3, ((((Below.refl w.heap.size w).drew).alloc (nL _) (.cells #[.int .i64 0, .slice none 0 0, .slice none 0 0, .slice none 0 0, .slice none 0 0] 144)).cell (p := ⟨gB, oB + s * 5 + 4, none⟩) hgB).trans q4⟩)
 refine hK.out _ _ hS2 ?_
 clear hK K hS
 have hS := hS2
 clear hS2
 (try simp only [gTA, gCZ, gCS, Act.put, sTA, sCZ, sCS])
 refine wpAnyZ_last rfl rfl (by kernel_rfl) (by kernel_rfl) (fun K hK => ?_)
 (try simp only [gTA, gCZ, gCS])
 go_simp
 refine hK.out _ _ ?_
 clear hK K
 (try simp only [gTA, gCZ, gCS, Act.put, sTA, sCZ, sCS])
 go_wp2_with fail
 have nA : Below w.heap.size w (w.alloc (.cells #[.int .i64 S.st, .slice E1 S.set.length e1, .slice E2 S.prep.length e2, .slice E3 S.sav.length e3, .slice E4 S.wr.length e4] 144)).drew := (((Below.refl w.heap.size w).alloc (nL _) (.cells #[.int .i64 S.st, .slice E1 S.set.length e1, .slice E2 S.prep.length e2, .slice E3 S.sav.length e3, .slice E4 S.wr.length e4] 144))).drew
 have X := RowTo.whole w #[.int .i64 S.st, .slice E1 S.set.length e1, .slice E2 S.prep.length e2, .slice E3 S.sav.length e3, .slice E4 S.wr.length e4] 144
 have t1 : (w.alloc (.cells #[.int .i64 S.st, .slice E1 S.set.length e1, .slice E2 S.prep.length e2, .slice E3 S.sav.length e3, .slice E4 S.wr.length e4] 144)).drew.cell? ⟨w.heap.size, 1, none⟩ = some (.slice E1 S.set.length e1) := X.cell (j := 1) (by simp)
 have t2 : (w.alloc (.cells #[.int .i64 S.st, .slice E1 S.set.length e1, .slice E2 S.prep.length e2, .slice E3 S.sav.length e3, .slice E4 S.wr.length e4] 144)).drew.cell? ⟨w.heap.size, 2, none⟩ = some (.slice E2 S.prep.length e2) := X.cell (j := 2) (by simp)
 have hM1 := HH.out.below nA
 have hl1 := lst_free HL1.out nA.size (fun b _ hb => nA.block b hb)
 have hl2 := lst_free HL2.out nA.size (fun b _ hb => nA.block b hb)
 have hz1 : (w.alloc (.cells #[.int .i64 S.st, .slice E1 S.set.length e1, .slice E2 S.prep.length e2, .slice E3 S.sav.length e3, .slice E4 S.wr.length e4] 144)).drew.heap.size = w.heap.size + 1 := by simp [World.drew]
 have HKA := jD (KeepF.below (G := G) nA)
 have HBA := jD (nA.mono (Nat.le_trans hbP (Nat.le_of_lt hP)))
 generalize (w.alloc (.cells #[.int .i64 S.st, .slice E1 S.set.length e1, .slice E2 S.prep.length e2, .slice E3 S.sav.length e3, .slice E4 S.wr.length e4] 144)).drew = W1 at *
 have HL1b := jD hl1
 have HL2b := jD hl2
 have HM1 := jD hM1
 have p4 := hM1.row.cell (j := 4 + c * 6 + 4) (by omega)
 have p5 := hM1.row.cell (j := 4 + c * 6 + 5) (by omega)
 have z4 := hM1.row.frozen (4 + c * 6 + 4)
 have z5 := hM1.row.frozen (4 + c * 6 + 5)
 have hPX : P ≠ w.heap.size := by omega
 clear hM1 hl1 hl2 X nA a2 a3 q0 q1 q2 q3 q4 hS HL1 HL2 HH
 refine wp_region_z 11 (fun wx => wx.cell? ⟨w.heap.size, 1, none⟩ = some (.slice E1 S.set.length e1) ∧ wx.cell? ⟨w.heap.size, 2, none⟩ = some (.slice E2 S.prep.length e2)) (by kernel_rfl) (show W1.drew.cell? ⟨w.heap.size, 1, none⟩ = some (.slice E1 S.set.length e1) ∧ W1.drew.cell? ⟨w.heap.size, 2, none⟩ = some (.slice E2 S.prep.length e2) from ⟨t1, t2⟩) (fun hS => ?_)
 refine tkE [(0, []), (1, []), (2, []), (3, []), (4, []), (5, []), (6, []), (7, [])] ?_
 iterate 8
  refine tkS (v := ?_) hS ?_ ?_
  rotate_left
  ·(intro w hSw; (try dsimp only at hSw); (try simp only [gTA, gCZ, gCS]); go_simp; try with_reducible rfl)
  (try simp only [gTA, gCZ, gCS, Act.put, sTA, sCZ, sCS])
 refine tkF ?_
 refine wpAnyZ_one (i := 8) rfl rfl (by kernel_rfl) (fun K hK => ?_)
 (try simp only [gTA, gCZ, gCS])
 go_simp
 have hS2 := (show (W1.drew.setCell ⟨P, 4 + c * 6 + 4, none⟩ (.slice E1 S.set.length e1)).cell? ⟨w.heap.size, 1, none⟩ = some (.slice E1 S.set.length e1) ∧ (W1.drew.setCell ⟨P, 4 + c * 6 + 4, none⟩ (.slice E1 S.set.length e1)).cell? ⟨w.heap.size, 2, none⟩ = some (.slice E2 S.prep.length e2) from ⟨cell_sty (p := ⟨P, 4 + c * 6 + 4, none⟩) hPX t1, cell_sty (p := ⟨P, 4 + c * 6 + 4, none⟩) hPX t2⟩)
 refine hK.out _ _ hS2 ?_
 clear hK K hS
 have hS := hS2
 clear hS2
 (try simp only [gTA, gCZ, gCS, Act.put, sTA, sCZ, sCS])
 refine tkE [(9, [10]), (10, [])] ?_
 iterate 2
  refine tkS (v := ?_) hS ?_ ?_
  rotate_left
  ·(intro w hSw; (try dsimp only at hSw); (try simp only [gTA, gCZ, gCS]); go_simp; try with_reducible rfl)
  (try simp only [gTA, gCZ, gCS, Act.put, sTA, sCZ, sCS])
 refine tkF ?_
 refine wpAnyZ_last rfl rfl (by kernel_rfl) (by kernel_rfl) (fun K hK => ?_)
 (try simp only [gTA, gCZ, gCS])
 go_simp
 refine hK.out _ _ ?_
 clear hK K
 (try simp only [gTA, gCZ, gCS, Act.put, sTA, sCZ, sCS])
 go_wp2_with fail
 have hM2 := (HM1.out.setLists hc HK6.out HL1b.out HL2b.out).below (Below.refl _ _).drew
 have hB2 := ((HBA.out.setCell (p := ⟨P, 4 + c * 6 + 4, none⟩) hbP (.slice E1 S.set.length e1)).setCell (p := ⟨P, 4 + c * 6 + 5, none⟩) hbP (.slice E2 S.prep.length e2)).drew
 have hK2 : KeepF G w (((W1.setCell ⟨P, 4 + c * 6 + 4, none⟩ (.slice E1 S.set.length e1)).setCell ⟨P, 4 + c * 6 + 5, none⟩ (.slice E2 S.prep.length e2)).drew) := ((HKA.out.set (k := 0) HP0.out (4 + c * 6 + 4) (.slice E1 S.set.length e1)).set (k := 0) HP0.out (4 + c * 6 + 5) (.slice E2 S.prep.length e2))
 obtain ⟨W2, HW2⟩ : ∃ u, Hid (((W1.setCell ⟨P, 4 + c * 6 + 4, none⟩ (.slice E1 S.set.length e1)).setCell ⟨P, 4 + c * 6 + 5, none⟩ (.slice E2 S.prep.length e2)).drew = u) := ⟨_, jD rfl⟩
 rw [HW2.out] at hM2 hB2 hK2 ⊢
 clear HW2 hS t1 t2 p4 p5 z4 z5 HM1 HL1b HL2b HBA
 obtain ⟨bb, ob, cp, g1, f3, hle, ⟨y, hy⟩, hfz, hM3⟩ := hM2.setBusy (j := s) HHB.out false
 obtain ⟨q, hq, hqs⟩ := hM2.srv c hc
 obtain rfl := hqs s HSR.out
 have b3 := hM2.row.cell (j := 3) (by omega)
 rw [f3] at b3
 have bs := hM2.row.cell (j := 4 + c * 6 + 3) (by omega)
 rw [hq] at bs
 have hbb := hM2.lo 1 bb g1
 have hPl := hM2.row.lt
 have hPb : P ≠ bb := fun e => hM2.noP (k := 1) (by omega) (by rw [g1, e])
 have c2 := hM3.row.cell (j := 4 + c * 6 + 2) (by omega)
 have z2 := hM3.row.frozen (4 + c * 6 + 2)
 have hM4 := (hM3.setNone hc HN6.out).below (Below.refl _ _).drew
 have hB4 := ((hB2.setCell (p := ⟨bb, ob + s, none⟩) hbb.1 (.bool false)).setCell (p := ⟨P, 4 + c * 6 + 2, none⟩) hbP (.bool false)).drew
 have hEq : m.release poolO c s = Mach.set { ({ m with e := ⟨m.e.w, m.e.kept.set c (S.set, S.prep)⟩ } : Mach PE) with busy := ({ m with e := ⟨m.e.w, m.e.kept.set c (S.set, S.prep)⟩ } : Mach PE).busy.set s false } c { Mach.get { ({ m with e := ⟨m.e.w, m.e.kept.set c (S.set, S.prep)⟩ } : Mach PE) with busy := ({ m with e := ⟨m.e.w, m.e.kept.set c (S.set, S.prep)⟩ } : Mach PE).busy.set s false } c with srv := none } := by
  show _ = _
  unfold Mach.release poolO PE.free Mach.set
  simp only [HAT.out]
  rfl
 rw [← hEq] at hM4
 have hK4 : KeepF G w (((W2.setCell ⟨bb, ob + s, none⟩ (.bool false)).setCell ⟨P, 4 + c * 6 + 2, none⟩ (.bool false)).drew) := (hK2.set (k := 1) g1 (ob + s) (.bool false)).set (k := 0) HP0.out (4 + c * 6 + 2) (.bool false)
 have HF := jD (And.intro hM4 (And.intro hB4 hK4))
 have hsB : s < m.busy.length := HHB.out
 have hsBI : (s : Int) < (m.busy.length : Int) := by omega
 generalize m.busy.length = nB at *
 clear hM2 hM3 hM4 hB4 hB2 hK2 hK4 hEq hq hqs f3 g1 HHB HSR HN6 HK6 HAT
 refine wp_region_z 9 (fun wx => wx.cell? ⟨P, 3, none⟩ = some (.slice (some ⟨bb, ob, none⟩) nB cp) ∧ wx.cell? ⟨P, 4 + c * 6 + 3, none⟩ = some (.int .i64 s)) (by kernel_rfl) (show W2.drew.cell? ⟨P, 3, none⟩ = some (.slice (some ⟨bb, ob, none⟩) nB cp) ∧ W2.drew.cell? ⟨P, 4 + c * 6 + 3, none⟩ = some (.int .i64 s) from ⟨b3, bs⟩) (fun hS => ?_)
 refine tkE [(0, []), (1, []), (2, []), (3, []), (4, []), (5, []), (6, []), (7, []), (8, [])] ?_
 iterate 9
  refine tkS (v := ?_) hS ?_ ?_
  rotate_left
  ·(intro w hSw; (try dsimp only at hSw); (try simp only [gTA, gCZ, gCS]); go_simp; try with_reducible rfl)
  (try simp only [gTA, gCZ, gCS, Act.put, sTA, sCZ, sCS])
 refine tkF ?_
 refine wpAnyZ_last rfl rfl (by kernel_rfl) (by kernel_rfl) (fun K hK => ?_)
 (try simp only [gTA, gCZ, gCS])
 go_simp
 refine hK.out _ _ ?_
 clear hK K
 (try simp only [gTA, gCZ, gCS, Act.put, sTA, sCZ, sCS])
 go_wp2
 go_end0
 exact ⟨_, rfl, HF.out.1, HF.out.2.1, HF.out.2.2⟩
end
def encN (x : Nat) : List Value := [.int .i64 (x : Int)]
section
variable {w : World} {b off cap : Nat} {d : List (Nat)}
theorem encN_each : ∀ e ∈ d.map encN, e.length = 1 := fun e he => by
 obtain ⟨x, _, rfl⟩ := List.mem_map.1 he
 rfl
theorem Rw.cN (h : Rw w 3 1 b off cap (d.map encN)) {i : Nat} (hi : i < d.length) : w.cell? ⟨b, off + i, none⟩ = some (.int .i64 (d[i] : Int)) := by
 have hi' : i < (d.map encN).length := by simpa using hi
 have h0 := h.cell i hi' 0 (by omega)
 rw [List.getElem_map] at h0
 simpa [encN] using h0
end
set_option maxHeartbeats 400000 in
theorem indexFuncN (lbv : Value) (p : Nat → Bool) (w : World) (b off cap B : Nat) (d : List (Nat)) (hR : Rw w 3 1 b off cap (d.map encN)) (hby : d.length ≤ 1000000000000000) (hB : B ≤ b)
  (hp : ∀ x ∈ d, ∀ wc, Below B w wc → (∀ g, g < w.heap.size → g ≠ b → wc.heap[g]? = w.heap[g]?) → Calls Tryz.prog 75 #[.int .i64 (x : Int), lbv] wc fun e w' => e = .returned (.bool (p x)) ∧ Below wc.heap.size wc w') :
  Calls Tryz.prog 86 #[.slice (some ⟨b, off, none⟩) d.length cap, .func (.func 75) #[] #[lbv]] w fun e w' => (∃ i : Int, e = .returned (.int .i64 i) ∧ ((i = -1 ∧ ∀ x ∈ d, p x = false) ∨ ∃ k, ∃ hk : k < d.length, i = k ∧ p d[k] = true ∧ ∀ x ∈ d.take k, p x = false)) ∧ Below w.heap.size w w' := by
 have hbl := hR.row.lt
 have HR := jD hR
 have HP := jD hp
 have hcap : d.length ≤ cap := by simpa using hR.room
 clear hR hp
 go_enter Tryz.func86, Tryz.ntmps86
 go_wp2
 go_loopw [8] (fun i wr => ∃ k : Nat, k ≤ d.length ∧ i = .int .i64 k ∧ Hid ((∀ x ∈ d.take k, p x = false) ∧ Below w.heap.size w wr)) (fun i _ => d.length - (intOf i).toNat)
 case atStart => exact ⟨0, by omega, rfl, (fun x hx => by simp at hx), Below.refl _ _⟩
 case round =>
  obtain ⟨k, hk, rfl, HZ⟩ := hrel
  by_cases hlt : k < d.length
  ·have hRk := HR.out.below HZ.out.2 hbl
   have a0 := hRk.cN hlt
   have hblr : b < wr.heap.size := Nat.lt_of_lt_of_le hbl HZ.out.2.size
   have HC := jD (HP.out d[k] (List.getElem_mem hlt) wr (HZ.out.2.mono (by omega)) (fun g hg _ => HZ.out.2.block g hg))
   have HT := jD (fun (h : p d[k] = true) => (show ∃ k', ∃ hk : k' < d.length, (k : Int) = k' ∧ p d[k'] = true ∧ ∀ x ∈ d.take k', p x = false from ⟨k, hlt, rfl, h, HZ.out.1⟩))
   have HF := jD (fun (h : p d[k] = false) => (show ∀ x ∈ d.take (k + 1), p x = false from fun x hx => by
    rw [List.take_succ_eq_append_getElem hlt] at hx
    rcases List.mem_append.1 hx with hx | hx
    ·exact HZ.out.1 x hx
    ·rw [List.mem_singleton.1 hx]; exact h))
   have HZ2 := jD HZ.out.2
   generalize d[k] = x at *
   clear HZ hRk
   cases hq : p x with
   | true =>
    have HT2 := jD (HT.out hq)
    rw [hq] at HC
    clear HT HF hq
    go_wp2_with fail
    refine HC.out.mono ?_
    rintro e w2 ⟨rfl, hb2⟩
    have HB2 := jD (HZ2.out.trans (hb2.mono HZ2.out.size))
    clear hb2
    go_wp2
    go_ret
    exact ⟨⟨k, rfl, .inr HT2.out⟩, HB2.out⟩
   | false =>
    have HF2 := jD (HF.out hq)
    rw [hq] at HC
    clear HT HF hq
    go_wp2_with fail
    refine HC.out.mono ?_
    rintro e w2 ⟨rfl, hb2⟩
    have HB2 := jD (HZ2.out.trans (hb2.mono HZ2.out.size))
    clear hb2
    go_wp2
    go_roundw
    case rel => exact ⟨k + 1, by omega, by go_num, HF2.out, HB2.out⟩
    case measure => simp [intOf]; omega
  ·obtain rfl : k = d.length := by omega
   rw [List.take_length] at HZ
   go_wp2
   go_ret
   exact ⟨⟨-1, rfl, .inl ⟨rfl, HZ.out.1⟩⟩, HZ.out.2⟩
theorem behind1 {w : World} {t b off cap : Nat} {d : List (List Value)} (h : Rw w t 1 b off cap d) {i : Nat} (hi : i ≤ d.length) (vs : List Value) : Rw (w.setCells b (off + i) vs) t 1 b off cap (d.take i) := by
 have := h.behind hi vs
 rw [Nat.mul_one] at this
 exact this
set_option maxHeartbeats 1000000 in
theorem deleteFuncN (lbv : Value) (p : Nat → Bool) (w : World) (b off cap B : Nat) (d : List (Nat)) (hR : Rw w 3 1 b off cap (d.map encN)) (hby : d.length ≤ 1000000000000000) (hB : B ≤ b)
  (hp : ∀ x ∈ d, ∀ wc, Below B w wc → (∀ g, g < w.heap.size → g ≠ b → wc.heap[g]? = w.heap[g]?) → Calls Tryz.prog 75 #[.int .i64 (x : Int), lbv] wc fun e w' => e = .returned (.bool (p x)) ∧ Below wc.heap.size wc w') :
  Calls Tryz.prog 74 #[.slice (some ⟨b, off, none⟩) d.length cap, .func (.func 75) #[] #[lbv]] w fun e w' => e = .returned (.slice (some ⟨b, off, none⟩) (d.filter fun x => !p x).length cap) ∧ Rw w' 3 1 b off cap ((d.filter fun x => !p x).map encN) ∧ Below B w w' ∧ ∀ g, g < w.heap.size → g ≠ b → w'.heap[g]? = w.heap[g]? := by
 have hbl := hR.row.lt
 have HI := jD (indexFuncN lbv p w b off cap B d hR hby hB hp)
 have HR := jD hR
 have HP := jD hp
 have hcap : d.length ≤ cap := by simpa using hR.room
 clear hR hp
 go_enter Tryz.func74, Tryz.ntmps74
 go_wp2_with fail
 refine HI.out.mono ?_
 rintro e w1 ⟨⟨i, rfl, hi⟩, hb1⟩
 have HB1 := jD hb1
 clear HI hb1
 rcases hi with ⟨rfl, hall⟩ | ⟨k, hk, rfl, h1, h0⟩
 ·have HA := jD (show (d.filter fun x => !p x) = d from List.filter_eq_self.2 fun x hx => by rw [hall x hx]; rfl)
  clear hall
  go_wp2
  go_ret
  rw [HA.out]
  exact ⟨rfl, HR.out.below HB1.out hbl, HB1.out.mono (by omega), fun g hg _ => HB1.out.block g hg⟩
 ·have HK := jD (KeepI.start hk h1 h0)
  have hne : ((k : Int) == -1) = false := beq_eq_false_iff_ne.2 (by omega)
  clear h1 h0
  go_wp2_with fail
  go_loopw [5, 6, 7] (fun s5 s6 s7 wr => ∃ (i j : Nat) (dk : List (Nat)), s5 = .int .i64 i ∧ s6 = .int .i64 j ∧ i < j ∧ j ≤ d.length ∧ Hid (KeepI p d i j dk ∧ Rw wr 3 1 b off cap (dk.map encN) ∧ Below B w wr ∧ (w.heap.size ≤ wr.heap.size) ∧ ∀ g, g < w.heap.size → g ≠ b → wr.heap[g]? = w.heap[g]?)) (fun _ s6 _ _ => d.length - (intOf s6).toNat)
  case atStart => exact ⟨k, k + 1, d, rfl, by go_num, by omega, by omega, HK.out, HR.out.below HB1.out hbl, HB1.out.mono (by omega), HB1.out.size, fun g hg _ => HB1.out.block g hg⟩
  case round =>
   obtain ⟨i, j, dk, rfl, rfl, hij, hjn, HZ⟩ := hrel
   clear HK HB1
   by_cases hlt : j < d.length
   ·have hRk := HZ.out.2.1
    have hlk := HZ.out.1.len
    have c0 := hRk.cN (i := j) (by omega)
    have z0 := hRk.cN (i := i) (by omega)
    rw [HZ.out.1.at hlt] at c0
    have a0 := c0
    skip
    have f0 := hRk.row.frozen (off + i)
    have hbr := hRk.row.lt
    skip
    have HC := jD (HP.out d[j] (List.getElem_mem hlt) wr HZ.out.2.2.1 HZ.out.2.2.2.2)
    have HKK := jD (fun (h : p d[j] = false) => HZ.out.1.keep hlt h)
    have HKS := jD (fun (h : p d[j] = true) => HZ.out.1.skip hlt h)
    have hjI : (j : Int) < (d.length : Int) := by omega
    have HM := jD (List.getElem_mem hlt)
    generalize d[j] = x at *
    skip
    clear hRk
    cases hq : p x with
    | true =>
     have HK2 := jD (HKS.out hq)
     rw [hq] at HC
     clear HKS HKK hq
     go_wp2_with fail
     refine HC.out.mono ?_
     rintro e w2 ⟨rfl, hb2⟩
     have HB2 := jD hb2
     clear hb2
     have hw2 : Below wr.heap.size wr w2 := HB2.out
     have hn2 : ∀ g, g < wr.heap.size → w2.heap[g]? = wr.heap[g]? := fun g hg => hw2.block g hg
     have H2 := jD (And.intro (HZ.out.2.1.keep (hn2 b hbr)) (And.intro (show Below B w w2 from HZ.out.2.2.1.trans (hw2.mono (by have := HZ.out.2.2.2.1; omega))) (And.intro (show w.heap.size ≤ w2.heap.size by have := HZ.out.2.2.2.1; have := hw2.size; omega) (fun g (hg : g < w.heap.size) (hne : g ≠ b) => (hn2 g (by have := HZ.out.2.2.2.1; omega)).trans (HZ.out.2.2.2.2 g hg hne)))))
     have hb2' : b < w2.heap.size := by have := hw2.size; omega
     go_wp2
     go_roundw
     case rel => exact ⟨i, j + 1, dk, rfl, by go_num, by omega, by omega, HK2.out, H2.out.1, H2.out.2.1, H2.out.2.2.1, H2.out.2.2.2⟩
     case measure => simp [intOf]; omega
    | false =>
     have HK2 := jD (HKK.out hq)
     rw [hq] at HC
     clear HKS HKK hq
     go_wp2_with fail
     refine HC.out.mono ?_
     rintro e w2 ⟨rfl, hb2⟩
     have HB2 := jD hb2
     clear hb2
     have hw2 : Below wr.heap.size wr w2 := HB2.out
     have hn2 : ∀ g, g < wr.heap.size → w2.heap[g]? = wr.heap[g]? := fun g hg => hw2.block g hg
     have H2 := jD (And.intro (HZ.out.2.1.keep (hn2 b hbr)) (And.intro (show Below B w w2 from HZ.out.2.2.1.trans (hw2.mono (by have := HZ.out.2.2.2.1; omega))) (And.intro (show w.heap.size ≤ w2.heap.size by have := HZ.out.2.2.2.1; have := hw2.size; omega) (fun g (hg : g < w.heap.size) (hne : g ≠ b) => (hn2 g (by have := HZ.out.2.2.2.1; omega)).trans (HZ.out.2.2.2.2 g hg hne)))))
     have hb2' : b < w2.heap.size := by have := hw2.size; omega
     have hi2 : i < (dk.map encN).length := by rw [List.length_map, HZ.out.1.len]; omega
     have H3 := jD (And.intro ((show Rw (w2.setCells b (off + i) (encN x)) 3 1 b off cap ((dk.map encN).set i (encN x)) by have := H2.out.1.set hi2 (e := encN x) rfl; rw [Nat.mul_one] at this; exact this)) (And.intro (below_setCells H2.out.2.1 hB (off + i) (encN x)) (And.intro (show w.heap.size ≤ (w2.setCells b (off + i) (encN x)).heap.size by rw [(setCells_keeps b _ _ _).2.2.2]; exact H2.out.2.2.1) (fun g (hg : g < w.heap.size) (hne : g ≠ b) => (setCells_other w2 b (off + i) (encN x) hne).trans (H2.out.2.2.2 g hg hne)))))
     rw [← List.map_set] at H3
     have v0 := (World.cell?_of_block (a := ⟨b, off + i, none⟩) (hn2 b hbr)).trans z0
     have g0 := (World.frozen?_of_block (a := ⟨b, off + i, none⟩) (hn2 b hbr)).trans f0
     simp only [World.setCells, encN, Nat.mul_one] at H3
     go_wp2
     go_roundw
     case rel => exact ⟨i + 1, j + 1, dk.set i x, by go_num, by go_num, by omega, by omega, HK2.out, H3.out.1, H3.out.2.1, H3.out.2.2.1, H3.out.2.2.2⟩
     case measure => simp [intOf]; omega
   ·obtain rfl : j = d.length := by omega
    have hRk := HZ.out.2.1
    have hlk := HZ.out.1.len
    have hbr := hRk.row.lt
    have hcl : ∀ ty, (Builtin.clear_ #[91] ty #[.slice (some ⟨b, off + i, none⟩) (d.length - i) (cap - i)]).run Tryz.prog wr = .ok (.tuple #[]) (wr.setCells b (off + i) (Builtin.zeroCells ((.int .i64 0) : Value).cells (d.length - i)).toList) := fun ty => by
     refine run_clear_cells (P := Tryz.prog) wr 91 3 ty (.int .i64 0) Tryz.underlying91 Tryz.zeroValue3 (by simp [Value.cells, Value.oneCell']) (by decide) b (off + i) (d.length - i) (cap - i) (by omega) (fun q hq => ?_) (fun q => hRk.row.frozen _)
     obtain ⟨u, hu⟩ := hRk.row.any (j := off + i + q) (by have : q < (d.length - i) * 1 := hq; have : d.length ≤ cap := hcap; omega)
     rw [hu]; rfl
    have H2 := jD (behind1 hRk (i := i) (by rw [List.length_map]; omega) (Builtin.zeroCells ((.int .i64 0) : Value).cells (d.length - i)).toList)
    rw [← List.map_take, HZ.out.1.done] at H2
    have HN := jD HZ.out.1.num
    have H3 := jD (And.intro (below_setCells HZ.out.2.2.1 hB (off + i) (Builtin.zeroCells ((.int .i64 0) : Value).cells (d.length - i)).toList) (fun g (hg : g < w.heap.size) (hne : g ≠ b) => (setCells_other wr b (off + i) (Builtin.zeroCells ((.int .i64 0) : Value).cells (d.length - i)).toList hne).trans (HZ.out.2.2.2.2 g hg hne)))
    clear hRk
    go_wp2
    go_ret
    refine ⟨by rw [HN.out]; rfl, H2.out, H3.out.1, H3.out.2⟩
set_option maxHeartbeats 400000 in
theorem indexFuncN_nil (A : Option Addr) (c : Nat) (fv : Value) (w : World) : Calls Tryz.prog 86 #[.slice A 0 c, .func (.func 75) #[] #[fv]] w fun e w' => e = .returned (.int .i64 (-1)) ∧ w' = w := by
 go_enter Tryz.func86, Tryz.ntmps86
 go_wp2
 go_loopw [8] (fun i wr => i = .int .i64 0 ∧ wr = w) (fun i _ => 0)
 case atStart => exact ⟨rfl, rfl⟩
 case round =>
  obtain ⟨rfl, rfl⟩ := hrel
  go_wp2
  go_ret
  exact ⟨rfl, rfl⟩
set_option maxHeartbeats 400000 in
theorem deleteFuncN_nil (A : Option Addr) (c : Nat) (fv : Value) (w : World) : Calls Tryz.prog 74 #[.slice A 0 c, .func (.func 75) #[] #[fv]] w fun e w' => e = .returned (.slice A 0 c) ∧ w' = w := by
 have HI := jD (indexFuncN_nil A c fv)
 go_enter Tryz.func74, Tryz.ntmps74
 go_wp2_with fail
 refine (HI.out _).mono ?_
 rintro e w1 ⟨rfl, rfl⟩
 go_wp2
 go_ret
 exact ⟨rfl, rfl⟩
set_option maxHeartbeats 400000 in
theorem leaveC_any (x c X : Nat) (w : World) (hx : w.cell? ⟨X, 0, none⟩ = some (.int .i64 (c : Int))) (hX : X < w.heap.size) :
  Calls Tryz.prog 75 #[.int .i64 (x : Int), .pointer (some ⟨X, 0, none⟩)] w fun e w' => e = .returned (.bool (x == c)) ∧ Below w.heap.size w w' := by
 by_cases h : x = c
 ·subst h
  have hb : ((x : Int) == (x : Int)) = true := by simp
  have hb2 : (x == x) = true := by simp
  rw [hb2]
  go_enter Tryz.func75, Tryz.ntmps75
  go_wp2
  go_ret
  exact ⟨rfl, Below.refl _ _⟩
 ·have hb : ((x : Int) == (c : Int)) = false := beq_eq_false_iff_ne.2 (by omega)
  have hb2 : (x == c) = false := beq_eq_false_iff_ne.2 h
  rw [hb2]
  go_enter Tryz.func75, Tryz.ntmps75
  go_wp2
  go_ret
  exact ⟨rfl, Below.refl _ _⟩
end Go.Proofs.YtpbaobmegomfpacGreatDoor
