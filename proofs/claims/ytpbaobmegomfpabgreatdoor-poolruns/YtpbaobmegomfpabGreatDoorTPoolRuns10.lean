/-
  Texts of the proof, one behind the other: HouV.
-/
import Derived.Test.YtpbaobmegomfpabGreatDoorTPoolRuns9
import Derived.Test.YtpbaobmegomfpabGreatDoorTPoolRuns3
set_option linter.unusedVariables false
set_option linter.unusedSimpArgs false
set_option maxRecDepth 100000
open List renaming getElem_toArray → gTA, getElem_cons_zero → gCZ, getElem_cons_succ → gCS, setIfInBounds_toArray → sTA, set_cons_zero → sCZ, set_cons_succ → sCS
open Go.Lib renaming hid → jD
open Nat renaming le_refl → nL
namespace Go.Proofs.YtpbaobmegomfpabGreatDoor
open Go.RowKit
section
variable {w : World} {base H A S : Nat} {f g : Nat → Value} {G : Nat → Option Nat} {mode : Int} {m : Mach Wd} {q : Nat → List Ask} {ow : List Int} {N : Nat}
def busyL (m : Mach Wd) (c : Nat) : List Bool := match (m.get c).srv with
 | some s => m.busy.set s false
 | none => m.busy
def ownL (m : Mach Wd) (ow : List Int) (c : Nat) : List Int := match (m.get c).srv with
 | some s => ow.set s (-1)
 | none => ow
def LvI (W3 : World) (c : Nat) (ln : List Nat) (k : Nat) (v : Value) (wr : World) : Prop := ∃ g', Sl wr 3 1 v g' ((ln.take k).filter (fun n => n != c)).length (((ln.take k).filter (fun n => n != c)).map numV) ∧ (∀ b, g' = some b → W3.heap.size ≤ b ∧ b < wr.heap.size) ∧ Below W3.heap.size W3 wr
theorem HRel.left (h : HRel m q ow) {c : Nat} (hc : c < 6) (hcl : m.cl.length = 6) : HRel (m.leave houseO c) (upd q c []) (ownL m ow c) := by
 have h1 := h.turn (x := Cl.new) hc hcl (l := []) rfl (by simp)
 unfold ownL
 cases hs : (m.get c).srv with
 | some s => exact h1.freed (m' := m.leave houseO c) (fun _ _ => rfl) (by unfold Mach.leave; simp only [hs]; rfl)
 | none => exact h1.same (m' := m.leave houseO c) (fun _ _ => rfl) (by unfold Mach.leave; simp only [hs]; rfl)
set_option maxHeartbeats 8000000 in
theorem hleave_any (w : World) (h : HMem 0 w base H A S f g G mode m q ow) (hI : HInv mode m N) (hN : N ≤ 300000) (hrel : HRel m q ow) (c : Nat) (hc : c < 6) :
  Calls Tryz.prog 32 #[.pointer (some ⟨H, 0, none⟩), .int .i64 c] w (HQ w base H A S mode (m.leave houseO c)) := by
 have hcI : (c : Int) < 6 := by omega
 have h4 : w.cell? ⟨H, 4, none⟩ = some (.slice (some ⟨A, 0, none⟩) 6 6) := by rw [h.h.cell (by omega), h.f4]
 have ga := h.a.cell (j := c * 4 + 2) (by omega)
 rw [h.srv c hc] at ga
 have hHl := h.h.lt
 have hAl := h.a.lt
 have H0 := jD (And.intro h (And.intro hI (And.intro hrel hN)))
 obtain ⟨bs, HBS⟩ : ∃ u, Hid (busyL m c = u) := ⟨_, jD rfl⟩
 obtain ⟨ol, HOL⟩ : ∃ u, Hid (ownL m ow c = u) := ⟨_, jD rfl⟩
 clear h hI hrel hN
 go_enter Tryz.func32, Tryz.ntmps32
 cases hs : (m.get c).srv with
 | some s =>
  rw [hs] at ga
  unfold srvI at ga
  simp only at ga
  have HSV := jD hs
  have hs3 : s < ow.length := by have := H0.out.2.1.srv hs; rw [H0.out.2.2.1.own]; exact (List.getElem?_eq_some_iff.1 this).1
  have hsI : (s : Int) < (ow.length : Int) := by omega
  obtain ⟨bo, oo, co, _, hf5, hco, _, _, _, _⟩ := H0.out.1.setOwn (j := s) hs3 (-1) (m.busy.set s false)
  have h5 := H0.out.1.h.cell (j := 5) (by omega)
  rw [hf5] at h5
  have HF5 := jD hf5
  clear hf5 hs
  go_wp2_with fail
  refine wp_freeX 13 [(0, 15), (1, 16), (2, 17), (3, 18), (4, 19), (5, 20), (6, 21), (7, 22), (8, 23), (9, 24), (10, 25), (11, 26), (12, 27)] [[], [(0, 15)], [(1, 16)], [(2, 17)], [], [(4, 19)], [(5, 20)], [(6, 21)], [], [(7, 22), (8, 23)], [(9, 24)], [(10, 25)], [(3, 18), (11, 26)]] [.pointer (some ⟨H, 0, none⟩), .pointer (some ⟨H, 0, none⟩), .pointer (some ⟨H, 5, none⟩), .slice (some ⟨bo, oo, none⟩) ow.length co, .pointer (some ⟨H, 0, none⟩), .pointer (some ⟨H, 0, none⟩), .pointer (some ⟨H, 4, none⟩), .slice (some ⟨A, 0, none⟩) 6 6, .int .i64 c, .pointer (some ⟨A, c * 4, none⟩), .pointer (some ⟨A, c * 4 + 2, none⟩), .int .i64 s, .pointer (some ⟨bo, oo + s, none⟩)] (fun _ w w' => Below w.heap.size w w') (fun wc => Below w.heap.size w wc) 1 (by kernel_rfl) (by rfl) (by kernel_rfl) (fun _ _ _ _ _ h => h) (Below.refl _ _).drew (fun _ _ => Below.refl _ _) (fun k w w' h hb => bel_trans h hb) ?_ ?_
  ·intro i hi wc hR
   have h4' := (hR.cell (p := ⟨H, 4, none⟩) hHl).trans h4
   have h5' := (hR.cell (p := ⟨H, 5, none⟩) hHl).trans h5
   have ga' := (hR.cell (p := ⟨A, c * 4 + 2, none⟩) hAl).trans ga
   rcases i with _ | _ | _ | _ | _ | _ | _ | _ | _ | _ | _ | _ | _ | i
   all_goals (first | contradiction | exact ⟨_, rfl, (by (try simp only [putF, List.getD_cons_succ, List.getD_cons_zero, Go.Act.put, sTA, sCZ, sCS]); try rfl), Or.inl (by (try simp only [putF, List.getD_cons_succ, List.getD_cons_zero, Go.Act.put, sTA, sCZ, sCS]); go_simp; try rfl)⟩ | exact absurd hi (by simp))
  ·intro wf hR
   have hS := True.intro
   (try simp only [putF, List.getD_cons_succ, List.getD_cons_zero, Go.Act.put, sTA, sCZ, sCS])
   obtain ⟨bo', oo', co', hG', hf', _, ⟨yo, hyo⟩, hfo, hbo, hM1⟩ := (H0.out.1.below hR).setOwn (j := s) (by exact hs3) (-1) (m.busy.set s false)
   obtain ⟨rfl, rfl, rfl⟩ : bo = bo' ∧ oo = oo' ∧ co = co' := by have e := HF5.out.symm.trans hf'; injection e with e1 e2 e3; injection e1 with e1; injection e1 with e1 e4; exact ⟨e1, e4, e3⟩
   have hb1 := (hR.mono H0.out.1.bH.2.2).setCell (p := ⟨bo, oo + s, none⟩) (H0.out.1.lo 9 bo hG').1 (.int .i64 (-1))
   have H1 := jD (show HMem 0 (wf.setCell ⟨bo, oo + s, none⟩ (.int .i64 (-1))) base H A S f g G mode { m with busy := bs } q ol ∧ Below base w (wf.setCell ⟨bo, oo + s, none⟩ (.int .i64 (-1))) by rw [← HBS.out, ← HOL.out]; unfold busyL ownL; rw [HSV.out]; exact ⟨hM1, hb1⟩)
   clear hM1 hb1 hR h4 h5 ga hHl hAl hG' hf'
   refine wpAnyZ_last rfl rfl (by kernel_rfl) (by kernel_rfl) (fun K hK => ?_)
   (try simp only [gTA, gCZ, gCS])
   go_simp
   refine hK.out _ _ ?_
   clear hK K
   (try simp only [gTA, gCZ, gCS, Act.put, sTA, sCZ, sCS])
   clear hyo hfo hbo
   obtain ⟨W1, HW1⟩ : ∃ u, Hid (wf.setCell ⟨bo, oo + s, none⟩ (.int .i64 (-1)) = u) := ⟨_, jD rfl⟩
   rw [HW1.out] at H1 ⊢
   clear HW1 HF5
   have hc6 : c < m.e.ss.length := by rw [H0.out.2.1.h6]; exact hc
   have h3 : W1.cell? ⟨H, 3, none⟩ = some (.slice (some ⟨S, 0, none⟩) 6 6) := by rw [H1.out.1.h.cell (by omega), H1.out.1.f3]
   have hHl := H1.out.1.h.lt
   obtain ⟨v1, v2, v3, v4, hss⟩ := H1.out.1.ref.ses c hc6
   have s0 := hss.core.c0
   have s1 := hss.core.c1
   have s2 := hss.core.c2
   have s3 := hss.core.c3
   have s4 := hss.core.c4
   have zs0 := H1.out.1.ref.blk.frozen (c * 5)
   have zs1 := H1.out.1.ref.blk.frozen (c * 5 + 1)
   have zs2 := H1.out.1.ref.blk.frozen (c * 5 + 2)
   have zs3 := H1.out.1.ref.blk.frozen (c * 5 + 3)
   have zs4 := H1.out.1.ref.blk.frozen (c * 5 + 4)
   have hSl := H1.out.1.ref.blk.lt
   have hM2 := H1.out.1.zeroS hc6
   have H2 := jD (show HMem 0 (((((W1.setCell ⟨S, c * 5, none⟩ (.int .i64 0)).setCell ⟨S, c * 5 + 1, none⟩ (.slice none 0 0)).setCell ⟨S, c * 5 + 2, none⟩ (.slice none 0 0)).setCell ⟨S, c * 5 + 3, none⟩ (.slice none 0 0)).setCell ⟨S, c * 5 + 4, none⟩ (.slice none 0 0)) base H A S f g G mode { m with e := m.e.put c Sess.zero, busy := bs } q ol ∧ Below base w (((((W1.setCell ⟨S, c * 5, none⟩ (.int .i64 0)).setCell ⟨S, c * 5 + 1, none⟩ (.slice none 0 0)).setCell ⟨S, c * 5 + 2, none⟩ (.slice none 0 0)).setCell ⟨S, c * 5 + 3, none⟩ (.slice none 0 0)).setCell ⟨S, c * 5 + 4, none⟩ (.slice none 0 0)) from ⟨hM2, by
    have hbS := (H1.out.1.lo 2 S H1.out.1.g2).1
    exact ((((H1.out.2.setCell (p := ⟨S, c * 5, none⟩) hbS _).setCell (p := ⟨S, c * 5 + 1, none⟩) hbS _).setCell (p := ⟨S, c * 5 + 2, none⟩) hbS _).setCell (p := ⟨S, c * 5 + 3, none⟩) hbS _).setCell (p := ⟨S, c * 5 + 4, none⟩) hbS _⟩)
   clear hM2 hss
   go_wp2_with fail
   clear h3 hHl s0 s1 s2 s3 s4 zs0 zs1 zs2 zs3 zs4 hSl
   obtain ⟨W2, HW2⟩ : ∃ u, Hid ((((((W1.setCell ⟨S, c * 5, none⟩ (.int .i64 0)).setCell ⟨S, c * 5 + 1, none⟩ (.slice none 0 0)).setCell ⟨S, c * 5 + 2, none⟩ (.slice none 0 0)).setCell ⟨S, c * 5 + 3, none⟩ (.slice none 0 0)).setCell ⟨S, c * 5 + 4, none⟩ (.slice none 0 0)) = u) := ⟨_, jD rfl⟩
   rw [HW2.out] at H2 ⊢
   clear HW2
   obtain ⟨sx, HSX⟩ : ∃ u, Hid (g (c * 4 + 3) = .string u) := ⟨_, jD (H0.out.1.sent c hc)⟩
   have h4 : W2.cell? ⟨H, 4, none⟩ = some (.slice (some ⟨A, 0, none⟩) 6 6) := by rw [H2.out.1.h.cell (by omega), H2.out.1.f4]
   have hHl := H2.out.1.h.lt
   have hAl := H2.out.1.a.lt
   have a0 := H2.out.1.a.cell (j := c * 4) (by omega)
   have a1 := H2.out.1.a.cell (j := c * 4 + 1) (by omega)
   have a2 := H2.out.1.a.cell (j := c * 4 + 2) (by omega)
   have a3 := H2.out.1.a.cell (j := c * 4 + 3) (by omega)
   rw [HSX.out] at a3
   refine wp_freeX 15 [(0, 36), (1, 37), (2, 38), (3, 39), (4, 40), (5, 41), (6, 42), (7, 43), (8, 44), (9, 45), (10, 46), (11, 47), (12, 48), (13, 49), (14, 50)] [[], [(0, 36)], [(1, 37)], [(2, 38)], [], [], [(5, 41)], [(6, 42)], [(7, 43)], [], [(8, 44), (9, 45)], [(10, 46)], [(11, 47)], [(12, 48)], [(3, 39), (4, 40)]] [.pointer (some ⟨H, 0, none⟩), .pointer (some ⟨H, 0, none⟩), .pointer (some ⟨H, 4, none⟩), .slice (some ⟨A, 0, none⟩) 6 6, .int .i64 c, .pointer (some ⟨H, 0, none⟩), .pointer (some ⟨H, 0, none⟩), .pointer (some ⟨H, 4, none⟩), .slice (some ⟨A, 0, none⟩) 6 6, .int .i64 c, .pointer (some ⟨A, c * 4, none⟩), .pointer (some ⟨A, c * 4 + 3, none⟩), .string sx, .agg #[.string ⟨#[]⟩, .slice none 0 0, .int .i64 (-1), .string sx], .pointer (some ⟨A, c * 4, none⟩)] (fun _ w w' => Below w.heap.size w w') (fun wc => Below W2.heap.size W2 wc) 1 (by kernel_rfl) (by rfl) (by kernel_rfl) (fun _ _ _ _ _ h => h) (Below.refl _ _).drew (fun _ _ => Below.refl _ _) (fun k w w' h hb => bel_trans h hb) ?_ ?_
   ·intro i hi wc hR
    have h4' := (hR.cell (p := ⟨H, 4, none⟩) hHl).trans h4
    have ga' := (hR.cell (p := ⟨A, c * 4 + 3, none⟩) hAl).trans a3
    rcases i with _ | _ | _ | _ | _ | _ | _ | _ | _ | _ | _ | _ | _ | _ | _ | i
    all_goals (first | contradiction | exact ⟨_, rfl, (by (try simp only [putF, List.getD_cons_succ, List.getD_cons_zero, Go.Act.put, sTA, sCZ, sCS]); try rfl), Or.inl (by (try simp only [putF, List.getD_cons_succ, List.getD_cons_zero, Go.Act.put, sTA, sCZ, sCS]); go_simp; try rfl)⟩ | exact absurd hi (by simp))
   ·intro wf hR
    have hS := True.intro
    (try simp only [putF, List.getD_cons_succ, List.getD_cons_zero, Go.Act.put, sTA, sCZ, sCS])
    have hM3 := (H2.out.1.below hR).fresh hc H0.out.2.1.n6
    rw [HSX.out] at hM3
    have hb3 := ((((H2.out.2.trans (hR.mono (Nat.le_trans H0.out.1.bH.2.2 H2.out.2.size))).setCell (p := ⟨A, c * 4, none⟩) H0.out.1.bH.2.1 (.string ⟨#[]⟩)).setCell (p := ⟨A, c * 4 + 1, none⟩) H0.out.1.bH.2.1 (.slice none 0 0)).setCell (p := ⟨A, c * 4 + 2, none⟩) H0.out.1.bH.2.1 (.int .i64 (-1))).setCell (p := ⟨A, c * 4 + 3, none⟩) H0.out.1.bH.2.1 (.string sx)
    have H3 := jD (show HMem 0 ((((wf.setCell ⟨A, c * 4, none⟩ (.string ⟨#[]⟩)).setCell ⟨A, c * 4 + 1, none⟩ (.slice none 0 0)).setCell ⟨A, c * 4 + 2, none⟩ (.int .i64 (-1))).setCell ⟨A, c * 4 + 3, none⟩ (.string sx)) base H A S f (freshG g c) (upd G (c + 3) none) mode { m with e := m.e.put c Sess.zero, busy := bs, cl := m.cl.set c Cl.new } (upd q c []) ol ∧ Below base w _ from ⟨hM3, hb3⟩)
    have k0 := (hR.cell (p := ⟨A, c * 4, none⟩) hAl).trans a0
    have k1 := (hR.cell (p := ⟨A, c * 4 + 1, none⟩) hAl).trans a1
    have k2 := (hR.cell (p := ⟨A, c * 4 + 2, none⟩) hAl).trans a2
    have k3 := (hR.cell (p := ⟨A, c * 4 + 3, none⟩) hAl).trans a3
    have fz0 := (H2.out.1.below hR).a.frozen (c * 4)
    have fz1 := (H2.out.1.below hR).a.frozen (c * 4 + 1)
    have fz2 := (H2.out.1.below hR).a.frozen (c * 4 + 2)
    have fz3 := (H2.out.1.below hR).a.frozen (c * 4 + 3)
    clear hM3 hb3 hR h4 a0 a1 a2 a3 hHl hAl
    refine wpAnyZ_last rfl rfl (by kernel_rfl) (by kernel_rfl) (fun K hK => ?_)
    (try simp only [gTA, gCZ, gCS])
    go_simp
    refine hK.out _ _ ?_
    clear hK K
    (try simp only [gTA, gCZ, gCS, Act.put, sTA, sCZ, sCS])
    clear k0 k1 k2 k3 fz0 fz1 fz2 fz3
    obtain ⟨W3, HW3⟩ : ∃ u, Hid (((((wf.setCell ⟨A, c * 4, none⟩ (.string ⟨#[]⟩)).setCell ⟨A, c * 4 + 1, none⟩ (.slice none 0 0)).setCell ⟨A, c * 4 + 2, none⟩ (.int .i64 (-1))).setCell ⟨A, c * 4 + 3, none⟩ (.string sx)) = u) := ⟨_, jD rfl⟩
    rw [HW3.out] at H3 ⊢
    clear HW3 H2 H1
    obtain ⟨ln, HLN⟩ : ∃ u, Hid (m.line = u) := ⟨_, jD rfl⟩
    have hn6 := H0.out.2.1.line
    rw [HLN.out] at hn6
    have hsl : Sl W3 3 1 (f 6) (upd G (c + 3) none 10) m.line.length (m.line.map numV) := H3.out.1.lineSl
    rw [HLN.out] at hsl
    obtain ⟨Al, cl, hvl, _⟩ := hsl.shape
    have HSL := jD hsl
    have HV6 := jD hvl
    clear hsl hvl
    have h6 := H3.out.1.h.cell (j := 6) (by omega)
    rw [HV6.out] at h6
    have hHl := H3.out.1.h.lt
    go_wp2_with fail
    go_loopg [4, 5] ln.length (fun gk v i wi => ∃ k : Nat, k ≤ ln.length ∧ gk = ln.length - k ∧ i = .int .i64 k ∧ Hid (LvI W3 c ln k v wi))
    case atStart => exact ⟨0, by omega, rfl, rfl, none, Sl.nil_ _ _ _, (fun b hb => by cases hb), Below.refl _ _⟩
    case round =>
     obtain ⟨k, hk, rfl, rfl, HZ⟩ := hrel
     obtain ⟨g', hv, hg, hB⟩ := HZ.out
     have hM := H3.out.1.below hB
     have h6 := hM.h.cell (j := 6) (by omega)
     rw [HV6.out] at h6
     have hHl := hM.h.lt
     have HVV := jD hv
     obtain ⟨Av, cv, hve, _⟩ := hv.shape
     subst hve
     by_cases hlt : k < ln.length
     ·have hkI : (k : Int) < (ln.length : Int) := by omega
      obtain ⟨b, off, cap, _, hv6, _, hcs⟩ := (HSL.out.below hB).at (by omega)
      obtain ⟨rfl, rfl⟩ : Al = some ⟨b, off, none⟩ ∧ cl = cap := by rw [HV6.out] at hv6; injection hv6 with e1 _ e3; exact ⟨e1, e3⟩
      have c0 := hcs k (by simpa using hlt)
      rw [List.getElem_map] at c0
      unfold numV at c0
      have HT := jD (show (ln.take (k + 1)).filter (fun n => n != c) = (ln.take k).filter (fun n => n != c) ++ [ln[k]].filter (fun n => n != c) by rw [List.take_succ_eq_append_getElem hlt, List.filter_append])
      have hfl : ((ln.take k).filter (fun n => n != c)).length ≤ 6 := Nat.le_trans (List.length_filter_le _ _) (by rw [List.length_take]; omega)
      generalize ln[k] = y at *
      by_cases hq : y = c
      ·have t1 : ((y : Int) != (c : Int)) = false := by simp [hq]
       have HF := jD (show LvI W3 c ln (k + 1) _ wr by
        unfold LvI
        rw [HT.out, show [y].filter (fun n => n != c) = [] by simp [hq], List.append_nil]
        exact ⟨g', HVV.out, hg, hB⟩)
       clear hv hg hB hM hv6 hcs hq HZ HT HVV
       generalize ((ln.take k).filter (fun n => n != c)).length = nf at *
       go_wp2_with fail
       go_roundg (ln.length - (k + 1))
       case measure => omega
       case rel => exact ⟨k + 1, by omega, rfl, by go_num, HF.out⟩
      ·have t1 : ((y : Int) != (c : Int)) = true := by simp; omega
       obtain ⟨i0, hi, hz0, hz1, hz2⟩ := info_parts int_row
       have n1 := (Below.refl wr.heap.size wr).alloc (nL _) (.cells #[.int .i64 (y : Int)] 3)
       have X := (RowTo.whole wr #[.int .i64 (y : Int)] 3).cell (j := 0) (by simp)
       obtain ⟨b2, o2, cp2, w2, hrun, hs2, hg2, hb2⟩ := (hv.below n1).append (P := Tryz.prog) 79 79 i0 _ 8 Tryz.underlying79 hi hz0 hz1 hz2 rfl (by omega) ⟨wr.heap.size, 0, none⟩ 1 [.int .i64 (y : Int)] rfl (fun j u hu => by
        cases j with
        | zero => simp at hu; rw [← hu]; exact X
        | succ j => simp at hu) (fun u hu => by simp at hu; rw [hu]; rfl) (by unfold maxLen; omega) (by omega)
       have hB2 := ((bel_trans hB n1).grown hg2 (bel_trans hB n1).size (fun x hx => (hg x hx).1))
       have HF := jD (show LvI W3 c ln (k + 1) _ w2 by
        unfold LvI
        rw [HT.out, show [y].filter (fun n => n != c) = [y] by simp [hq], List.length_append, List.map_append]
        exact ⟨some b2, hs2, fun b hb => by injection hb with hb; subst hb; exact hb2.elim (fun h => ⟨(hg _ h).1, Nat.lt_of_lt_of_le (hg _ h).2 (Nat.le_trans n1.size hg2.size)⟩) (fun h => ⟨Nat.le_trans (bel_trans hB n1).size h.1, h.2⟩), hB2⟩)
       clear hv hg hB hM hv6 hcs hq HZ HT HVV n1 X hs2 hg2 hb2 hB2 hi hz0 hz1 hz2
       generalize ((ln.take k).filter (fun n => n != c)).length = nf at *
       go_wp2_with (at_builtin; refine Lib.wpList_append_run _ rfl _ _ _ _ rfl _ _ rfl rfl _ _ hrun ?_)
       go_roundg (ln.length - (k + 1))
       case measure => omega
       case rel => exact ⟨k + 1, by omega, rfl, by go_num, HF.out⟩
     ·obtain rfl : k = ln.length := by omega
      rw [List.take_length] at HVV
      have HF := jD (And.intro (H3.out.1.newLine hB (ln.filter (fun n => n != c)) HVV.out hg) ((H3.out.2.trans (hB.mono (Nat.le_trans H0.out.1.bH.2.2 H3.out.2.size))).setCell (p := ⟨H, 6, none⟩) H0.out.1.bH.1 (.slice Av (ln.filter (fun n => n != c)).length cv)))
      have HE := jD (show m.leave houseO c = { m with e := m.e.put c Sess.zero, busy := bs, cl := m.cl.set c Cl.new, line := ln.filter (fun n => n != c) } by rw [← HBS.out, ← HLN.out]; rfl)
      have hfz := hM.h.frozen 6
      clear hv hg hB hM HZ HVV
      go_wp2_with fail
      go_end0
      refine ⟨upd q c [], ol, ⟨_, _, _, rfl, by rw [HE.out]; exact HF.out.1, HF.out.2⟩, ?_⟩
      rw [← HOL.out]
      exact H0.out.2.2.1.left hc H0.out.2.1.n6
 | none =>
  rw [hs] at ga
  unfold srvI at ga
  simp only at ga
  have H1 := jD (show HMem 0 w base H A S f g G mode { m with busy := bs } q ol ∧ Below base w w by rw [← HBS.out, ← HOL.out]; unfold busyL ownL; rw [hs]; exact ⟨H0.out.1, Below.refl _ _⟩)
  clear hs
  have hc6 : c < m.e.ss.length := by rw [H0.out.2.1.h6]; exact hc
  have h3 : w.cell? ⟨H, 3, none⟩ = some (.slice (some ⟨S, 0, none⟩) 6 6) := by rw [H1.out.1.h.cell (by omega), H1.out.1.f3]
  have hHl := H1.out.1.h.lt
  obtain ⟨v1, v2, v3, v4, hss⟩ := H1.out.1.ref.ses c hc6
  have s0 := hss.core.c0
  have s1 := hss.core.c1
  have s2 := hss.core.c2
  have s3 := hss.core.c3
  have s4 := hss.core.c4
  have zs0 := H1.out.1.ref.blk.frozen (c * 5)
  have zs1 := H1.out.1.ref.blk.frozen (c * 5 + 1)
  have zs2 := H1.out.1.ref.blk.frozen (c * 5 + 2)
  have zs3 := H1.out.1.ref.blk.frozen (c * 5 + 3)
  have zs4 := H1.out.1.ref.blk.frozen (c * 5 + 4)
  have hSl := H1.out.1.ref.blk.lt
  have hM2 := H1.out.1.zeroS hc6
  have H2 := jD (show HMem 0 (((((w.setCell ⟨S, c * 5, none⟩ (.int .i64 0)).setCell ⟨S, c * 5 + 1, none⟩ (.slice none 0 0)).setCell ⟨S, c * 5 + 2, none⟩ (.slice none 0 0)).setCell ⟨S, c * 5 + 3, none⟩ (.slice none 0 0)).setCell ⟨S, c * 5 + 4, none⟩ (.slice none 0 0)) base H A S f g G mode { m with e := m.e.put c Sess.zero, busy := bs } q ol ∧ Below base w (((((w.setCell ⟨S, c * 5, none⟩ (.int .i64 0)).setCell ⟨S, c * 5 + 1, none⟩ (.slice none 0 0)).setCell ⟨S, c * 5 + 2, none⟩ (.slice none 0 0)).setCell ⟨S, c * 5 + 3, none⟩ (.slice none 0 0)).setCell ⟨S, c * 5 + 4, none⟩ (.slice none 0 0)) from ⟨hM2, by
   have hbS := (H1.out.1.lo 2 S H1.out.1.g2).1
   exact ((((H1.out.2.setCell (p := ⟨S, c * 5, none⟩) hbS _).setCell (p := ⟨S, c * 5 + 1, none⟩) hbS _).setCell (p := ⟨S, c * 5 + 2, none⟩) hbS _).setCell (p := ⟨S, c * 5 + 3, none⟩) hbS _).setCell (p := ⟨S, c * 5 + 4, none⟩) hbS _⟩)
  clear hM2 hss
  go_wp2_with fail
  clear h3 hHl s0 s1 s2 s3 s4 zs0 zs1 zs2 zs3 zs4 hSl
  obtain ⟨W2, HW2⟩ : ∃ u, Hid ((((((w.setCell ⟨S, c * 5, none⟩ (.int .i64 0)).setCell ⟨S, c * 5 + 1, none⟩ (.slice none 0 0)).setCell ⟨S, c * 5 + 2, none⟩ (.slice none 0 0)).setCell ⟨S, c * 5 + 3, none⟩ (.slice none 0 0)).setCell ⟨S, c * 5 + 4, none⟩ (.slice none 0 0)) = u) := ⟨_, jD rfl⟩
  rw [HW2.out] at H2 ⊢
  clear HW2
  obtain ⟨sx, HSX⟩ : ∃ u, Hid (g (c * 4 + 3) = .string u) := ⟨_, jD (H0.out.1.sent c hc)⟩
  have h4 : W2.cell? ⟨H, 4, none⟩ = some (.slice (some ⟨A, 0, none⟩) 6 6) := by rw [H2.out.1.h.cell (by omega), H2.out.1.f4]
  have hHl := H2.out.1.h.lt
  have hAl := H2.out.1.a.lt
  have a0 := H2.out.1.a.cell (j := c * 4) (by omega)
  have a1 := H2.out.1.a.cell (j := c * 4 + 1) (by omega)
  have a2 := H2.out.1.a.cell (j := c * 4 + 2) (by omega)
  have a3 := H2.out.1.a.cell (j := c * 4 + 3) (by omega)
  rw [HSX.out] at a3
  refine wp_freeX 15 [(0, 36), (1, 37), (2, 38), (3, 39), (4, 40), (5, 41), (6, 42), (7, 43), (8, 44), (9, 45), (10, 46), (11, 47), (12, 48), (13, 49), (14, 50)] [[], [(0, 36)], [(1, 37)], [(2, 38)], [], [], [(5, 41)], [(6, 42)], [(7, 43)], [], [(8, 44), (9, 45)], [(10, 46)], [(11, 47)], [(12, 48)], [(3, 39), (4, 40)]] [.pointer (some ⟨H, 0, none⟩), .pointer (some ⟨H, 0, none⟩), .pointer (some ⟨H, 4, none⟩), .slice (some ⟨A, 0, none⟩) 6 6, .int .i64 c, .pointer (some ⟨H, 0, none⟩), .pointer (some ⟨H, 0, none⟩), .pointer (some ⟨H, 4, none⟩), .slice (some ⟨A, 0, none⟩) 6 6, .int .i64 c, .pointer (some ⟨A, c * 4, none⟩), .pointer (some ⟨A, c * 4 + 3, none⟩), .string sx, .agg #[.string ⟨#[]⟩, .slice none 0 0, .int .i64 (-1), .string sx], .pointer (some ⟨A, c * 4, none⟩)] (fun _ w w' => Below w.heap.size w w') (fun wc => Below W2.heap.size W2 wc) 1 (by kernel_rfl) (by rfl) (by kernel_rfl) (fun _ _ _ _ _ h => h) (Below.refl _ _).drew (fun _ _ => Below.refl _ _) (fun k w w' h hb => bel_trans h hb) ?_ ?_
  ·intro i hi wc hR
   have h4' := (hR.cell (p := ⟨H, 4, none⟩) hHl).trans h4
   have ga' := (hR.cell (p := ⟨A, c * 4 + 3, none⟩) hAl).trans a3
   rcases i with _ | _ | _ | _ | _ | _ | _ | _ | _ | _ | _ | _ | _ | _ | _ | i
   all_goals (first | contradiction | exact ⟨_, rfl, (by (try simp only [putF, List.getD_cons_succ, List.getD_cons_zero, Go.Act.put, sTA, sCZ, sCS]); try rfl), Or.inl (by (try simp only [putF, List.getD_cons_succ, List.getD_cons_zero, Go.Act.put, sTA, sCZ, sCS]); go_simp; try rfl)⟩ | exact absurd hi (by simp))
  ·intro wf hR
   have hS := True.intro
   (try simp only [putF, List.getD_cons_succ, List.getD_cons_zero, Go.Act.put, sTA, sCZ, sCS])
   have hM3 := (H2.out.1.below hR).fresh hc H0.out.2.1.n6
   rw [HSX.out] at hM3
   have hb3 := ((((H2.out.2.trans (hR.mono (Nat.le_trans H0.out.1.bH.2.2 H2.out.2.size))).setCell (p := ⟨A, c * 4, none⟩) H0.out.1.bH.2.1 (.string ⟨#[]⟩)).setCell (p := ⟨A, c * 4 + 1, none⟩) H0.out.1.bH.2.1 (.slice none 0 0)).setCell (p := ⟨A, c * 4 + 2, none⟩) H0.out.1.bH.2.1 (.int .i64 (-1))).setCell (p := ⟨A, c * 4 + 3, none⟩) H0.out.1.bH.2.1 (.string sx)
   have H3 := jD (show HMem 0 ((((wf.setCell ⟨A, c * 4, none⟩ (.string ⟨#[]⟩)).setCell ⟨A, c * 4 + 1, none⟩ (.slice none 0 0)).setCell ⟨A, c * 4 + 2, none⟩ (.int .i64 (-1))).setCell ⟨A, c * 4 + 3, none⟩ (.string sx)) base H A S f (freshG g c) (upd G (c + 3) none) mode { m with e := m.e.put c Sess.zero, busy := bs, cl := m.cl.set c Cl.new } (upd q c []) ol ∧ Below base w _ from ⟨hM3, hb3⟩)
   have k0 := (hR.cell (p := ⟨A, c * 4, none⟩) hAl).trans a0
   have k1 := (hR.cell (p := ⟨A, c * 4 + 1, none⟩) hAl).trans a1
   have k2 := (hR.cell (p := ⟨A, c * 4 + 2, none⟩) hAl).trans a2
   have k3 := (hR.cell (p := ⟨A, c * 4 + 3, none⟩) hAl).trans a3
   have fz0 := (H2.out.1.below hR).a.frozen (c * 4)
   have fz1 := (H2.out.1.below hR).a.frozen (c * 4 + 1)
   have fz2 := (H2.out.1.below hR).a.frozen (c * 4 + 2)
   have fz3 := (H2.out.1.below hR).a.frozen (c * 4 + 3)
   clear hM3 hb3 hR h4 a0 a1 a2 a3 hHl hAl
   refine wpAnyZ_last rfl rfl (by kernel_rfl) (by kernel_rfl) (fun K hK => ?_)
   (try simp only [gTA, gCZ, gCS])
   go_simp
   refine hK.out _ _ ?_
   clear hK K
   (try simp only [gTA, gCZ, gCS, Act.put, sTA, sCZ, sCS])
   clear k0 k1 k2 k3 fz0 fz1 fz2 fz3
   obtain ⟨W3, HW3⟩ : ∃ u, Hid (((((wf.setCell ⟨A, c * 4, none⟩ (.string ⟨#[]⟩)).setCell ⟨A, c * 4 + 1, none⟩ (.slice none 0 0)).setCell ⟨A, c * 4 + 2, none⟩ (.int .i64 (-1))).setCell ⟨A, c * 4 + 3, none⟩ (.string sx)) = u) := ⟨_, jD rfl⟩
   rw [HW3.out] at H3 ⊢
   clear HW3 H2 H1
   obtain ⟨ln, HLN⟩ : ∃ u, Hid (m.line = u) := ⟨_, jD rfl⟩
   have hn6 := H0.out.2.1.line
   rw [HLN.out] at hn6
   have hsl : Sl W3 3 1 (f 6) (upd G (c + 3) none 10) m.line.length (m.line.map numV) := H3.out.1.lineSl
   rw [HLN.out] at hsl
   obtain ⟨Al, cl, hvl, _⟩ := hsl.shape
   have HSL := jD hsl
   have HV6 := jD hvl
   clear hsl hvl
   have h6 := H3.out.1.h.cell (j := 6) (by omega)
   rw [HV6.out] at h6
   have hHl := H3.out.1.h.lt
   go_wp2_with fail
   go_loopg [4, 5] ln.length (fun gk v i wi => ∃ k : Nat, k ≤ ln.length ∧ gk = ln.length - k ∧ i = .int .i64 k ∧ Hid (LvI W3 c ln k v wi))
   case atStart => exact ⟨0, by omega, rfl, rfl, none, Sl.nil_ _ _ _, (fun b hb => by cases hb), Below.refl _ _⟩
   case round =>
    obtain ⟨k, hk, rfl, rfl, HZ⟩ := hrel
    obtain ⟨g', hv, hg, hB⟩ := HZ.out
    have hM := H3.out.1.below hB
    have h6 := hM.h.cell (j := 6) (by omega)
    rw [HV6.out] at h6
    have hHl := hM.h.lt
    have HVV := jD hv
    obtain ⟨Av, cv, hve, _⟩ := hv.shape
    subst hve
    by_cases hlt : k < ln.length
    ·have hkI : (k : Int) < (ln.length : Int) := by omega
     obtain ⟨b, off, cap, _, hv6, _, hcs⟩ := (HSL.out.below hB).at (by omega)
     obtain ⟨rfl, rfl⟩ : Al = some ⟨b, off, none⟩ ∧ cl = cap := by rw [HV6.out] at hv6; injection hv6 with e1 _ e3; exact ⟨e1, e3⟩
     have c0 := hcs k (by simpa using hlt)
     rw [List.getElem_map] at c0
     unfold numV at c0
     have HT := jD (show (ln.take (k + 1)).filter (fun n => n != c) = (ln.take k).filter (fun n => n != c) ++ [ln[k]].filter (fun n => n != c) by rw [List.take_succ_eq_append_getElem hlt, List.filter_append])
     have hfl : ((ln.take k).filter (fun n => n != c)).length ≤ 6 := Nat.le_trans (List.length_filter_le _ _) (by rw [List.length_take]; omega)
     generalize ln[k] = y at *
     by_cases hq : y = c
     ·have t1 : ((y : Int) != (c : Int)) = false := by simp [hq]
      have HF := jD (show LvI W3 c ln (k + 1) _ wr by
       unfold LvI
       rw [HT.out, show [y].filter (fun n => n != c) = [] by simp [hq], List.append_nil]
       exact ⟨g', HVV.out, hg, hB⟩)
      clear hv hg hB hM hv6 hcs hq HZ HT HVV
      generalize ((ln.take k).filter (fun n => n != c)).length = nf at *
      go_wp2_with fail
      go_roundg (ln.length - (k + 1))
      case measure => omega
      case rel => exact ⟨k + 1, by omega, rfl, by go_num, HF.out⟩
     ·have t1 : ((y : Int) != (c : Int)) = true := by simp; omega
      obtain ⟨i0, hi, hz0, hz1, hz2⟩ := info_parts int_row
      have n1 := (Below.refl wr.heap.size wr).alloc (nL _) (.cells #[.int .i64 (y : Int)] 3)
      have X := (RowTo.whole wr #[.int .i64 (y : Int)] 3).cell (j := 0) (by simp)
      obtain ⟨b2, o2, cp2, w2, hrun, hs2, hg2, hb2⟩ := (hv.below n1).append (P := Tryz.prog) 79 79 i0 _ 8 Tryz.underlying79 hi hz0 hz1 hz2 rfl (by omega) ⟨wr.heap.size, 0, none⟩ 1 [.int .i64 (y : Int)] rfl (fun j u hu => by
       cases j with
       | zero => simp at hu; rw [← hu]; exact X
       | succ j => simp at hu) (fun u hu => by simp at hu; rw [hu]; rfl) (by unfold maxLen; omega) (by omega)
      have hB2 := ((bel_trans hB n1).grown hg2 (bel_trans hB n1).size (fun x hx => (hg x hx).1))
      have HF := jD (show LvI W3 c ln (k + 1) _ w2 by
       unfold LvI
       rw [HT.out, show [y].filter (fun n => n != c) = [y] by simp [hq], List.length_append, List.map_append]
       exact ⟨some b2, hs2, fun b hb => by injection hb with hb; subst hb; exact hb2.elim (fun h => ⟨(hg _ h).1, Nat.lt_of_lt_of_le (hg _ h).2 (Nat.le_trans n1.size hg2.size)⟩) (fun h => ⟨Nat.le_trans (bel_trans hB n1).size h.1, h.2⟩), hB2⟩)
      clear hv hg hB hM hv6 hcs hq HZ HT HVV n1 X hs2 hg2 hb2 hB2 hi hz0 hz1 hz2
      generalize ((ln.take k).filter (fun n => n != c)).length = nf at *
      go_wp2_with (at_builtin; refine Lib.wpList_append_run _ rfl _ _ _ _ rfl _ _ rfl rfl _ _ hrun ?_)
      go_roundg (ln.length - (k + 1))
      case measure => omega
      case rel => exact ⟨k + 1, by omega, rfl, by go_num, HF.out⟩
    ·obtain rfl : k = ln.length := by omega
     rw [List.take_length] at HVV
     have HF := jD (And.intro (H3.out.1.newLine hB (ln.filter (fun n => n != c)) HVV.out hg) ((H3.out.2.trans (hB.mono (Nat.le_trans H0.out.1.bH.2.2 H3.out.2.size))).setCell (p := ⟨H, 6, none⟩) H0.out.1.bH.1 (.slice Av (ln.filter (fun n => n != c)).length cv)))
     have HE := jD (show m.leave houseO c = { m with e := m.e.put c Sess.zero, busy := bs, cl := m.cl.set c Cl.new, line := ln.filter (fun n => n != c) } by rw [← HBS.out, ← HLN.out]; rfl)
     have hfz := hM.h.frozen 6
     clear hv hg hB hM HZ HVV
     go_wp2_with fail
     go_end0
     refine ⟨upd q c [], ol, ⟨_, _, _, rfl, by rw [HE.out]; exact HF.out.1, HF.out.2⟩, ?_⟩
     rw [← HOL.out]
     exact H0.out.2.2.1.left hc H0.out.2.1.n6
end
end Go.Proofs.YtpbaobmegomfpabGreatDoor
