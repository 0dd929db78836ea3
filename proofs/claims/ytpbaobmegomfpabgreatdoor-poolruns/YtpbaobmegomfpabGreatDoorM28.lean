/-
  Texts of the proof, one behind the other: PDo, SlS, Say2.
-/
import Derived.Test.YtpbaobmegomfpabGreatDoorM24
import Derived.Test.YtpbaobmegomfpabGreatDoorM27
import Derived.Test.YtpbaobmegomfpabGreatDoorM21
import Derived.Lib.AppendStr
import Derived.Test.YtpbaobmegomfpabGreatDoorRows
import Derived.Test.YtpbaobmegomfpabGreatDoorM1
import Derived.Test.YtpbaobmegomfpabGreatDoorM4
import Derived.WalkKit
import Derived.WalkSpells
import Derived.WalkLawsBesides
import Derived.Deep.QuietTactic
import Derived.BigQuiet
import Derived.Lib.Hide
import Derived.IntWalk
import Derived.Deep.RegionHeld3
set_option linter.unusedVariables false
set_option linter.unusedSimpArgs false
set_option maxRecDepth 100000
open List renaming getElem_toArray → gTA, getElem_cons_zero → gCZ, getElem_cons_succ → gCS, setIfInBounds_toArray → sTA, set_cons_zero → sCZ, set_cons_succ → sCS
open Go.Lib renaming hid → jD
open Nat renaming le_refl → nL
namespace Go.Proofs.YtpbaobmegomfpabGreatDoor
open Go.RowKit
structure Tabs (w : World) (base : Nat) : Prop where
 wo : Words w
 le : Leads w
 l1 : 1 < base
 l2 : 0 < base
theorem Tabs.below {w w' : World} {base : Nat} (h : Tabs w base) (hb : Below base w w') : Tabs w' base :=
 ⟨⟨Nat.lt_of_lt_of_le h.wo.room hb.size, fun k hk => (hb.cell (p := ⟨1, k, none⟩) h.l1).trans (h.wo.cell k hk)⟩, ⟨Nat.lt_of_lt_of_le h.le.room hb.size, fun k hk => (hb.cell (p := ⟨0, k, none⟩) h.l2).trans (h.le.cell k hk)⟩, h.l1, h.l2⟩
def Only (P : Nat) (w w' : World) : Prop := w.heap.size ≤ w'.heap.size ∧ ∀ b, b < w.heap.size → b ≠ P → w'.heap[b]? = w.heap[b]?
section
variable {P R : Nat} {w w' w2 : World}
theorem Only.refl (P : Nat) (w : World) : Only P w w := ⟨nL _, fun _ _ _ => rfl⟩
theorem Only.trans (h : Only P w w') (h2 : Only P w' w2) : Only P w w2 := ⟨Nat.le_trans h.1 h2.1, fun b hb hne => (h2.2 b (Nat.lt_of_lt_of_le hb h.1) hne).trans (h.2 b hb hne)⟩
theorem Only.below (h : Below w.heap.size w w') : Only P w w' := ⟨h.size, fun b hb _ => h.block b hb⟩
theorem Only.set (h : Only P w w') (j : Nat) (v : Value) : Only P w (w'.setCell ⟨P, j, none⟩ v) := ⟨by rw [size_set]; exact h.1, fun b hb hne => (set_off _ P j v b hne).trans (h.2 b hb hne)⟩
theorem Only.new (h : Only P w w') (hR : w.heap.size ≤ R) (j : Nat) (v : Value) : Only P w (w'.setCell ⟨R, j, none⟩ v) := ⟨by rw [size_set]; exact h.1, fun b hb hne => (set_off _ R j v b (by omega)).trans (h.2 b hb hne)⟩
theorem Only.lst {v : Value} {l : PL} (h : Only P w w') (hl : Lst w w.heap.size v l) (hp : InP (fun b => b ≠ P) v l) : Lst w' w'.heap.size v l := hl.keepP (own_lt hl hp) (fun b hb => h.2 b hb.2 hb.1) (fun b hb => Nat.lt_of_lt_of_le hb.2 h.1)
end
section
variable {base P : Nat} {f : Nat → Value} {G : Nat → Option Nat} {mode : Int} {m : Mach PE}
set_option maxHeartbeats 4000000 in
theorem doP_any (w : World) (h : PMem 0 w base P f G mode m) (hT : Tabs w base) (hok : WorldOk m.e.w) (s : Nat) (hs : s < m.e.w.ss.length) (r : Req) (hr : r.ok) :
  Calls Tryz.prog 75 #[ptr P 0, .int .i64 s, .agg #[.int .i64 r.k, .string r.key, .string r.val]] w fun e w' => ∃ f', e = .returned (.agg #[.int .i64 (doR m.e.w s r).2.kind, .string (doR m.e.w s r).2.text, .int .i64 ((doR m.e.w s r).1.at s).st]) ∧
   PMem 0 w' base P f' G mode { m with e := ⟨(doR m.e.w s r).1, m.e.kept⟩ } ∧ Below base w w' ∧ Only P w w' := by
 have hP := h.row.lt
 have hbP := (h.lo 0 P h.p0).1
 obtain ⟨A1, c1', hf2, _⟩ := h.wld.wld.sess.form
 obtain ⟨D1, d1, hf1, _⟩ := h.wld.wld.rows.form
 have n0 := ((Below.refl w.heap.size w).alloc (nL _) (.cells #[.int .i64 r.k, .string r.key, .string r.val] 41)).alloc (by simp) (.cells #[.int .i64 0, .string ⟨#[]⟩, .int .i64 0] 46)
 have a0 := (n0.cell (p := ⟨P, 1, none⟩) hP).trans (h.row.cell (j := 1) (by omega))
 have a1 := (n0.cell (p := ⟨P, 2, none⟩) hP).trans (h.row.cell (j := 2) (by omega))
 rw [hf1] at a0
 rw [hf2] at a1
 have X1 := (RowTo.whole w #[.int .i64 r.k, .string r.key, .string r.val] 41).alloc (.cells #[.int .i64 0, .string ⟨#[]⟩, .int .i64 0] 46)
 have HR1 := jD (RowTo.whole (w.alloc (.cells #[.int .i64 r.k, .string r.key, .string r.val] 41)) #[.int .i64 0, .string ⟨#[]⟩, .int .i64 0] 46)
 simp only [World.size_alloc] at HR1
 obtain ⟨x0, x1, x2⟩ := cells3 X1
 have hW1 := h.wld.wld.step n0
 rw [hf1, hf2] at hW1
 have HW1 := jD hW1
 have HWo := jD (hT.wo.below n0)
 have HH := jD (h.below n0)
 have HN0 := jD n0
 have HB0 := jD (n0.mono (Nat.le_trans hbP (Nat.le_of_lt hP)))
 have HDO := jD (fun (v1 v2 : Value) (wc : World) (h1 : Wld wc wc.heap.size v1 v2 m.e.w) (h2 : Words wc) => do_new v1 v2 m.e.w s r.k r.key r.val wc h1 h2 hok hs hr)
 obtain ⟨R, hR⟩ : ∃ R, doR m.e.w s r = R := ⟨_, rfl⟩
 have hR' : doM m.e.w s r.k r.key r.val = R := hR
 rw [hR'] at HDO
 rw [hR]
 obtain ⟨st, HST⟩ : ∃ st, Hid ((R.1.at s).st = st) := ⟨_, jD rfl⟩
 rw [HST.out] at HDO ⊢
 have hAl : P < ((w.alloc (.cells #[.int .i64 r.k, .string r.key, .string r.val] 41)).alloc (.cells #[.int .i64 0, .string ⟨#[]⟩, .int .i64 0] 46)).heap.size := by simp; omega
 have hXl := X1.lt
 generalize m.e.w.rows.length = n1 at *
 generalize m.e.w.ss.length = n2 at *
 have HLO := jD (fun i b (hi : G i = some b) => (h.lo i b hi).2)
 clear hR hR' hok hs hr hT X1 n0 hf1 hf2 h HST hW1
 unfold ptr
 go_enter Tryz.func75, Tryz.ntmps75
 go_wp2_with fail
 generalize hwr : (w.alloc (.cells #[.int .i64 r.k, .string r.key, .string r.val] 41)).alloc (.cells #[.int .i64 0, .string ⟨#[]⟩, .int .i64 0] 46) = wr at *
 have hsz : wr.heap.size = w.heap.size + 1 + 1 := by rw [← hwr]; simp
 clear hwr
 refine wp_region_z 15 (fun wx => wx.cell? ⟨P, 1, none⟩ = some (.slice D1 n1 d1) ∧ wx.cell? ⟨P, 2, none⟩ = some (.slice A1 n2 c1') ∧ wx.cell? ⟨w.heap.size, 0, none⟩ = some (.int .i64 r.k) ∧ wx.cell? ⟨w.heap.size, 1, none⟩ = some (.string r.key) ∧ wx.cell? ⟨w.heap.size, 2, none⟩ = some (.string r.val)) (by kernel_rfl) (show wr.drew.cell? ⟨P, 1, none⟩ = some (.slice D1 n1 d1) ∧ wr.drew.cell? ⟨P, 2, none⟩ = some (.slice A1 n2 c1') ∧ wr.drew.cell? ⟨w.heap.size, 0, none⟩ = some (.int .i64 r.k) ∧ wr.drew.cell? ⟨w.heap.size, 1, none⟩ = some (.string r.key) ∧ wr.drew.cell? ⟨w.heap.size, 2, none⟩ = some (.string r.val) from ⟨a0, a1, x0, x1, x2⟩) (fun hS => ?_)
 refine tkE [(0, []), (1, []), (2, []), (3, []), (4, []), (5, [])] ?_
 iterate 6
  refine tkS (v := ?_) hS ?_ ?_
  rotate_left
  ·(intro w hSw; (try dsimp only at hSw); (try simp only [gTA, gCZ, gCS]); go_simp; try with_reducible rfl)
  (try simp only [gTA, gCZ, gCS, Act.put, sTA, sCZ, sCS])
 refine tkF ?_
 refine grid0 (C := 1) (cop := fun c => 6) (dst := fun c => 17) (p := 11) (q := 12) (dp := 7) (dq := 8) (tp := 39) (tq := 46) (zp := #[.slice none 0 0, .slice none 0 0]) (zq := #[.int .i64 0, .string ⟨#[]⟩, .int .i64 0])
  (Lst := fun c x y => #[true, true, true, true, true, true, decide (0 < c), false, false, false, false, x, y, false, false, false]) (Lst' := fun x y => #[true, true, true, true, true, true, true, true, true, true, true, x, y, false, false, false]) ?gG (DJ wr 0 (fun _ => (0, .int .i64 0)) 17 (fun r2 s2 => doGood r2 s2 R.2 st) (fun r2 s2 wc => WldP wc (fun b => wr.heap.size ≤ b) r2 s2 R.1)) (DJ' wr (fun A0 r2 s2 => (((((putsN A0 (fun _ => (0, .int .i64 0)) 0).put (some 17) (doGood r2 s2 R.2 st)).put (some 10) (doGood r2 s2 R.2 st)).put (some 18) (.agg #[r2, s2])).put (some 19) (.agg #[.int .i64 R.2.kind, .string R.2.text, .int .i64 st])).put (some 20) (.int .i64 0)) (fun r2 s2 wc => WldP wc (fun b => wr.heap.size ≤ b) r2 s2 R.1)) 3 4 wr.heap.size (dj_alloc (fun r s w o h => wldP_alloc r s w o h)) (dj'_alloc (fun r s w o h => wldP_alloc r s w o h)) ?g3 ?g4 (fun c a w h => h.1.size) (fun a w h => h.1.size) ?g5 ?g6 ?g7 ⟨(Below.refl _ _).drew, fun _ => rfl, fun h => absurd h (by omega)⟩
 case gG =>
  refine ⟨⟨_, rfl, rfl, rfl, fun ev w => (by go_simp; rfl)⟩, ⟨_, rfl, rfl, rfl, fun ev w => (by go_simp; rfl)⟩, (by decide), fun c h => (by (repeat' split) <;> decide), fun c x y h => ?_, fun x y h => (match x, y, h with | false, false, _ => (by kernel_rfl) | false, true, _ => (by kernel_rfl) | true, false, _ => (by kernel_rfl) | true, true, h => (by cases h)), fun c x y h => ?_, fun c y h => rfl, fun c x h => rfl, fun y => rfl, fun x => rfl⟩
  ·match c, h with
   | 0, _ => cases x <;> cases y <;> (show _ = _; kernel_rfl)
  ·match c, h with
   | 0, _ => rfl
 case g3 => exact fun c a wc h => ⟨(h.1.cell (p := ⟨P, 1, none⟩) hAl).trans a0, (h.1.cell (p := ⟨P, 2, none⟩) hAl).trans a1, (h.1.cell (p := ⟨w.heap.size, 0, none⟩) hXl).trans x0, (h.1.cell (p := ⟨w.heap.size, 1, none⟩) hXl).trans x1, (h.1.cell (p := ⟨w.heap.size, 2, none⟩) hXl).trans x2⟩
 case g4 => exact fun a wc h => ⟨(h.1.cell (p := ⟨P, 1, none⟩) hAl).trans a0, (h.1.cell (p := ⟨P, 2, none⟩) hAl).trans a1, (h.1.cell (p := ⟨w.heap.size, 0, none⟩) hXl).trans x0, (h.1.cell (p := ⟨w.heap.size, 1, none⟩) hXl).trans x1, (h.1.cell (p := ⟨w.heap.size, 2, none⟩) hXl).trans x2⟩
 case g5 =>
  intro c0 a wc x' y hc0 hj hx hy
  match c0, hc0, hj with
  | 0, _, hj =>
   obtain ⟨hb, hf, _⟩ := hj
   obtain rfl := hf (by omega)
   refine wpOp_wp rfl rfl (wp_call (g := 23) (args := #[.agg #[.slice D1 n1 d1, .slice A1 n2 c1'], .int .i64 s, .agg #[.int .i64 r.k, .string r.key, .string r.val]]) ?_ ?_)
   ·cases x' <;> cases y <;> (simp only [fr, pt, doGood, doBad, putsN, Act.put, sTA, sCZ, sCS]; go_simp; try rfl)
   ·refine (HDO.out _ _ wc (HW1.out.step hb) (HWo.out.below hb)).mono ?_
    rintro e w3 ⟨r2, s2, rfl, hw3, hb3⟩
    exact ⟨_, rfl, _, rfl, ⟨bel_add' hb hb3 hb.size, fun h => absurd h (by omega), fun _ => ⟨r2, s2, rfl, hw3.mono (fun b hq => Nat.le_trans hb.size hq)⟩⟩, zs_below hx hb3, zs_below hy hb3⟩
 case g6 =>
  intro a wc x' y n' hj hx hy hk'
  obtain ⟨hb, _, hj⟩ := hj
  obtain ⟨r2, s2, rfl, hw3⟩ := hj (by omega)
  have hS : wc.cell? ⟨P, 1, none⟩ = some (.slice D1 n1 d1) ∧ wc.cell? ⟨P, 2, none⟩ = some (.slice A1 n2 c1') ∧ wc.cell? ⟨w.heap.size, 0, none⟩ = some (.int .i64 r.k) ∧ wc.cell? ⟨w.heap.size, 1, none⟩ = some (.string r.key) ∧ wc.cell? ⟨w.heap.size, 2, none⟩ = some (.string r.val) := ⟨(hb.cell (p := ⟨P, 1, none⟩) hAl).trans a0, (hb.cell (p := ⟨P, 2, none⟩) hAl).trans a1, (hb.cell (p := ⟨w.heap.size, 0, none⟩) hXl).trans x0, (hb.cell (p := ⟨w.heap.size, 1, none⟩) hXl).trans x1, (hb.cell (p := ⟨w.heap.size, 2, none⟩) hXl).trans x2⟩
  have hk' := hk' _ ⟨hb, r2, s2, rfl, hw3⟩
  clear hx hy hw3
  cases x' <;> cases y
  all_goals
   simp only [fr, pt, doGood, doBad, putsN, Act.put, sTA, sCZ, sCS]
   simp only [fr, pt, doGood, doBad, putsN, Act.put, sTA, sCZ, sCS] at hk'
   refine wpAnyZ_take (i := 7) (v := ?_) rfl (by kernel_rfl) (by kernel_rfl) (by kernel_rfl) (by kernel_rfl) (fun _ _ _ h => h) (Or.inl ⟨by rfl, ?_⟩) hS ?_
   rotate_left
   ·(intro w hSw; (try dsimp only at hSw); (try simp only [gTA, gCZ, gCS]); go_simp; try with_reducible rfl)
   (try simp only [gTA, gCZ, gCS, Act.put, sTA, sCZ, sCS])
   refine wpAnyZ_take (i := 8) (v := ?_) rfl (by kernel_rfl) (by kernel_rfl) (by kernel_rfl) (by kernel_rfl) (fun _ _ _ h => h) (Or.inl ⟨by rfl, ?_⟩) hS ?_
   rotate_left
   ·(intro w hSw; (try dsimp only at hSw); (try simp only [gTA, gCZ, gCS]); go_simp; try with_reducible rfl)
   (try simp only [gTA, gCZ, gCS, Act.put, sTA, sCZ, sCS])
   refine wpAnyZ_take (i := 9) (v := ?_) rfl (by kernel_rfl) (by kernel_rfl) (by kernel_rfl) (by kernel_rfl) (fun _ _ _ h => h) (Or.inl ⟨by rfl, ?_⟩) hS ?_
   rotate_left
   ·(intro w hSw; (try dsimp only at hSw); (try simp only [gTA, gCZ, gCS]); go_simp; try with_reducible rfl)
   (try simp only [gTA, gCZ, gCS, Act.put, sTA, sCZ, sCS])
   refine wpAnyZ_take (i := 10) (v := ?_) rfl (by kernel_rfl) (by kernel_rfl) (by kernel_rfl) (by kernel_rfl) (fun _ _ _ h => h) (Or.inl ⟨by rfl, ?_⟩) hS ?_
   rotate_left
   ·(intro w hSw; (try dsimp only at hSw); (try simp only [gTA, gCZ, gCS]); go_simp; try with_reducible rfl)
   (try simp only [gTA, gCZ, gCS, Act.put, sTA, sCZ, sCS])
   exact hk'
 case g7 =>
  intro a wc b1 c1 hj hx hy
  obtain ⟨hb, r2, s2, rfl, hw3⟩ := hj
  have hS : wc.cell? ⟨P, 1, none⟩ = some (.slice D1 n1 d1) ∧ wc.cell? ⟨P, 2, none⟩ = some (.slice A1 n2 c1') ∧ wc.cell? ⟨w.heap.size, 0, none⟩ = some (.int .i64 r.k) ∧ wc.cell? ⟨w.heap.size, 1, none⟩ = some (.string r.key) ∧ wc.cell? ⟨w.heap.size, 2, none⟩ = some (.string r.val) := ⟨(hb.cell (p := ⟨P, 1, none⟩) hAl).trans a0, (hb.cell (p := ⟨P, 2, none⟩) hAl).trans a1, (hb.cell (p := ⟨w.heap.size, 0, none⟩) hXl).trans x0, (hb.cell (p := ⟨w.heap.size, 1, none⟩) hXl).trans x1, (hb.cell (p := ⟨w.heap.size, 2, none⟩) hXl).trans x2⟩
  have hB1 := (hx b1 rfl).1
  have hC1 := (hy c1 rfl).1
  have hX1 := zs_row hx
  have hY1 := zs_row hy
  have hbc : b1 ≠ c1 := fun e => by have h1 := (hx b1 rfl).2; have h2 := (hy c1 rfl).2; rw [e, h2] at h1; injection h1 with h1; injection h1 with _ h1 _; exact absurd h1 (by decide)
  obtain ⟨A2, c2, rfl, _⟩ := hw3.wld.sess.form
  obtain ⟨D2, d2', rfl, _⟩ := hw3.wld.rows.form
  have HX1 := jD hX1
  have HY1 := jD hY1
  have HW3 := jD hw3
  have HBL := jD hb
  obtain ⟨z0, z1⟩ := cells2 hX1
  have f0 := hX1.frozen 0
  have f1 := hX1.frozen 1
  have HY2 := jD (hY1.oth2 hbc (.slice D2 R.1.rows.length d2') (.slice A2 R.1.ss.length c2))
  have nb0 : b1 ≠ P := by omega
  have nc0 : c1 ≠ P := by omega
  have nb1 : b1 ≠ w.heap.size := by omega
  have nc1 : c1 ≠ w.heap.size := by omega
  clear hX1 hY1 hx hy hw3
  simp only [fr, pt, doGood, doBad, putsN, Act.put, sTA, sCZ, sCS]
  refine wpAnyZ_one (i := 13) rfl rfl (by kernel_rfl) (fun K hK => ?_)
  (try simp only [gTA, gCZ, gCS])
  go_simp
  have hS2 := (show ((wc.setCell ⟨b1, 0, none⟩ (.slice D2 R.1.rows.length d2')).setCell ⟨b1, 1, none⟩ (.slice A2 R.1.ss.length c2)).cell? ⟨P, 1, none⟩ = some (.slice D1 n1 d1) ∧ ((wc.setCell ⟨b1, 0, none⟩ (.slice D2 R.1.rows.length d2')).setCell ⟨b1, 1, none⟩ (.slice A2 R.1.ss.length c2)).cell? ⟨P, 2, none⟩ = some (.slice A1 n2 c1') ∧ ((wc.setCell ⟨b1, 0, none⟩ (.slice D2 R.1.rows.length d2')).setCell ⟨b1, 1, none⟩ (.slice A2 R.1.ss.length c2)).cell? ⟨w.heap.size, 0, none⟩ = some (.int .i64 r.k) ∧ ((wc.setCell ⟨b1, 0, none⟩ (.slice D2 R.1.rows.length d2')).setCell ⟨b1, 1, none⟩ (.slice A2 R.1.ss.length c2)).cell? ⟨w.heap.size, 1, none⟩ = some (.string r.key) ∧ ((wc.setCell ⟨b1, 0, none⟩ (.slice D2 R.1.rows.length d2')).setCell ⟨b1, 1, none⟩ (.slice A2 R.1.ss.length c2)).cell? ⟨w.heap.size, 2, none⟩ = some (.string r.val) from ⟨cell_sty (p := ⟨b1, 1, none⟩) nb0 (cell_sty (p := ⟨b1, 0, none⟩) nb0 hS.1), cell_sty (p := ⟨b1, 1, none⟩) nb0 (cell_sty (p := ⟨b1, 0, none⟩) nb0 hS.2.1), cell_sty (p := ⟨b1, 1, none⟩) nb1 (cell_sty (p := ⟨b1, 0, none⟩) nb1 hS.2.2.1), cell_sty (p := ⟨b1, 1, none⟩) nb1 (cell_sty (p := ⟨b1, 0, none⟩) nb1 hS.2.2.2.1), cell_sty (p := ⟨b1, 1, none⟩) nb1 (cell_sty (p := ⟨b1, 0, none⟩) nb1 hS.2.2.2.2)⟩)
  refine hK.out _ _ hS2 ?_
  clear hK K hS
  have hS := hS2
  clear hS2
  (try simp only [gTA, gCZ, gCS, Act.put, sTA, sCZ, sCS])
  obtain ⟨p0, p1, p2⟩ := cells3 HY2.out
  have g0 := HY2.out.frozen 0
  have g1 := HY2.out.frozen 1
  have g2 := HY2.out.frozen 2
  refine wpAnyZ_one (i := 14) rfl rfl (by kernel_rfl) (fun K hK => ?_)
  (try simp only [gTA, gCZ, gCS])
  go_simp
  have hS2 := (show (((((wc.setCell ⟨b1, 0, none⟩ (.slice D2 R.1.rows.length d2')).setCell ⟨b1, 1, none⟩ (.slice A2 R.1.ss.length c2)).setCell ⟨c1, 0, none⟩ (.int .i64 R.2.kind)).setCell ⟨c1, 1, none⟩ (.string R.2.text)).setCell ⟨c1, 2, none⟩ (.int .i64 st)).cell? ⟨P, 1, none⟩ = some (.slice D1 n1 d1) ∧ (((((wc.setCell ⟨b1, 0, none⟩ (.slice D2 R.1.rows.length d2')).setCell ⟨b1, 1, none⟩ (.slice A2 R.1.ss.length c2)).setCell ⟨c1, 0, none⟩ (.int .i64 R.2.kind)).setCell ⟨c1, 1, none⟩ (.string R.2.text)).setCell ⟨c1, 2, none⟩ (.int .i64 st)).cell? ⟨P, 2, none⟩ = some (.slice A1 n2 c1') ∧ (((((wc.setCell ⟨b1, 0, none⟩ (.slice D2 R.1.rows.length d2')).setCell ⟨b1, 1, none⟩ (.slice A2 R.1.ss.length c2)).setCell ⟨c1, 0, none⟩ (.int .i64 R.2.kind)).setCell ⟨c1, 1, none⟩ (.string R.2.text)).setCell ⟨c1, 2, none⟩ (.int .i64 st)).cell? ⟨w.heap.size, 0, none⟩ = some (.int .i64 r.k) ∧ (((((wc.setCell ⟨b1, 0, none⟩ (.slice D2 R.1.rows.length d2')).setCell ⟨b1, 1, none⟩ (.slice A2 R.1.ss.length c2)).setCell ⟨c1, 0, none⟩ (.int .i64 R.2.kind)).setCell ⟨c1, 1, none⟩ (.string R.2.text)).setCell ⟨c1, 2, none⟩ (.int .i64 st)).cell? ⟨w.heap.size, 1, none⟩ = some (.string r.key) ∧ (((((wc.setCell ⟨b1, 0, none⟩ (.slice D2 R.1.rows.length d2')).setCell ⟨b1, 1, none⟩ (.slice A2 R.1.ss.length c2)).setCell ⟨c1, 0, none⟩ (.int .i64 R.2.kind)).setCell ⟨c1, 1, none⟩ (.string R.2.text)).setCell ⟨c1, 2, none⟩ (.int .i64 st)).cell? ⟨w.heap.size, 2, none⟩ = some (.string r.val) from ⟨cell_sty (p := ⟨c1, 2, none⟩) nc0 (cell_sty (p := ⟨c1, 1, none⟩) nc0 (cell_sty (p := ⟨c1, 0, none⟩) nc0 hS.1)), cell_sty (p := ⟨c1, 2, none⟩) nc0 (cell_sty (p := ⟨c1, 1, none⟩) nc0 (cell_sty (p := ⟨c1, 0, none⟩) nc0 hS.2.1)), cell_sty (p := ⟨c1, 2, none⟩) nc1 (cell_sty (p := ⟨c1, 1, none⟩) nc1 (cell_sty (p := ⟨c1, 0, none⟩) nc1 hS.2.2.1)), cell_sty (p := ⟨c1, 2, none⟩) nc1 (cell_sty (p := ⟨c1, 1, none⟩) nc1 (cell_sty (p := ⟨c1, 0, none⟩) nc1 hS.2.2.2.1)), cell_sty (p := ⟨c1, 2, none⟩) nc1 (cell_sty (p := ⟨c1, 1, none⟩) nc1 (cell_sty (p := ⟨c1, 0, none⟩) nc1 hS.2.2.2.2))⟩)
  refine hK.out _ _ hS2 ?_
  clear hK K hS
  have hS := hS2
  clear hS2
  (try simp only [gTA, gCZ, gCS, Act.put, sTA, sCZ, sCS])
  refine wpAnyZ_last rfl rfl (by kernel_rfl) (by kernel_rfl) (fun K hK => ?_)
  (try simp only [gTA, gCZ, gCS])
  go_simp
  refine hK.out _ _ ?_
  clear hK K
  (try simp only [gTA, gCZ, gCS, Act.put, sTA, sCZ, sCS])
  have H9 := jD (new_at (a := R.2) (st := st) HX1.out HY1.out HW3.out HBL.out hB1 hC1 hbc)
  clear hS z0 z1 f0 f1 p0 p1 p2 g0 g1 g2 HY2 nb0 nc0 nb1 nc1 hbc hB1 hC1 HX1 HY1 HW3 HBL hb a0 a1 x0 x1 x2
  generalize (((((wc.setCell ⟨b1, 0, none⟩ (.slice D2 R.1.rows.length d2')).setCell ⟨b1, 1, none⟩ (.slice A2 R.1.ss.length c2)).setCell ⟨c1, 0, none⟩ (.int .i64 R.2.kind)).setCell ⟨c1, 1, none⟩ (.string R.2.text)).setCell ⟨c1, 2, none⟩ (.int .i64 st)) = W9 at *
  clear hS
  obtain ⟨b0, b1'⟩ := cells2 H9.out.b
  obtain ⟨a0, a1, a2⟩ := cells3 H9.out.c
  have hM9 := HH.out.below H9.out.bel
  have f0 := hM9.row.frozen 1
  have f1 := hM9.row.frozen 2
  have p0 := hM9.row.cell (j := 1) (by omega)
  have p1 := hM9.row.cell (j := 2) (by omega)
  have hB9 := HB0.out.trans (H9.out.bel.mono (Nat.le_trans hbP (by omega)))
  have hw9 := H9.out.wld.mono (Q := Free G) (fun b hb i hi => by have := (HH.out.lo i b hi).2; omega)
  have HF := jD (And.intro (hM9.setWorld hw9) ((hB9.setCell (p := ⟨P, 1, none⟩) hbP (.slice D2 R.1.rows.length d2')).setCell (p := ⟨P, 2, none⟩) hbP (.slice A2 R.1.ss.length c2)))
  have hPc : P ≠ c1 := by have := H9.out.lc; omega
  have C9 := (H9.out.c.other (p := ⟨P, 1, none⟩) hPc (.slice D2 R.1.rows.length d2')).other (p := ⟨P, 2, none⟩) hPc (.slice A2 R.1.ss.length c2)
  obtain ⟨e0, e1, e2⟩ := cells3 C9
  have hlb := H9.out.b.lt
  have hlc := H9.out.c.lt
  have hz9 := H9.out.bel.size
  have R9 := ((HR1.out.below H9.out.bel (by omega)).other (p := ⟨P, 1, none⟩) (by show P ≠ w.heap.size + 1; omega) (.slice D2 R.1.rows.length d2')).other (p := ⟨P, 2, none⟩) (by show P ≠ w.heap.size + 1; omega) (.slice A2 R.1.ss.length c2)
  obtain ⟨r0, r1, r2'⟩ := cells3 R9
  have g0 := R9.frozen 0
  have g1 := R9.frozen 1
  have g2 := R9.frozen 2
  have hGR : ∀ i, G i ≠ some (w.heap.size + 1) := fun i hi => by have := (HLO.out i _ hi); omega
  have HF2 := jD (And.intro (HF.out.1.ans3 R9 hGR (.int .i64 R.2.kind) (.string R.2.text) (.int .i64 st)) (bel_set3 HF.out.2 (show base ≤ w.heap.size + 1 by omega) (.int .i64 R.2.kind) (.string R.2.text) (.int .i64 st)))
  have HO := jD ((((((Only.below (P := P) (HN0.out.trans (H9.out.bel.mono (by omega)))).set 1 (.slice D2 R.1.rows.length d2')).set 2 (.slice A2 R.1.ss.length c2)).new (R := w.heap.size + 1) (by omega) 0 (.int .i64 R.2.kind)).new (R := w.heap.size + 1) (by omega) 1 (.string R.2.text)).new (R := w.heap.size + 1) (by omega) 2 (.int .i64 st))
  clear hM9 hB9 hw9 C9 H9 HH HN0 HB0 HW1 HWo HDO HF R9 hGR HR1 HLO
  go_wp2
  refine bodyPost_ret (v := .agg #[.int .i64 R.2.kind, .string R.2.text, .int .i64 st]) (by simp [results, Tryz.results75, go_sem, r0, r1, r2']) rfl ⟨_, rfl, HF2.out.1, HF2.out.2, HO.out⟩
end
end Go.Proofs.YtpbaobmegomfpabGreatDoor
namespace Go.Proofs.YtpbaobmegomfpabGreatDoor
open Go.RowKit Go.Lib
theorem Sl.appendStr {P : Program} {w : World} {t n : Nat} {v : Value} {g : Option Nat} {xs : List Value} (h : Sl w t 1 v g n xs) (ts u ty : TypeId) (i : TypeInfo) (ht : P.underlying ts = some (.slice t)) (hu : P.underlying u = some .string) (hi : P.info? t = some i) (hz : i.zero = some (.int .u8 0))
  (hsize : i.size = 1) (hby : i.bytes = 1) (s : ByteArray) (hs : 0 < s.size) (h63 : n + s.size ≤ maxLen) (hbytes : n + s.size ≤ 140737488355328) :
  ∃ b off cap w', (Builtin.append_ #[ts, u] ty #[v, .string s]).run P w = .ok (.slice (some ⟨b, off, none⟩) (n + s.size) cap) w' ∧ Sl w' t 1 (.slice (some ⟨b, off, none⟩) (n + s.size) cap) (some b) (n + s.size) (xs ++ strCells s) ∧
   w.grownBy w' g ∧ (g = some b ∨ (w.heap.size ≤ b ∧ b < w'.heap.size)) := by
 have hxl : xs.length = n := by simpa using h.len
 rcases h.form with ⟨rfl, rfl, rfl⟩ | ⟨b, off, cap, tot, rfl, rfl, hc, hr, hfit, hcell⟩
 ·have hx : xs = [] := List.eq_nil_of_length_eq_zero (by simpa using h.len)
  subst hx
  obtain ⟨v', w', hrun, hown, hgr, _⟩ := run_append_own_string (P := P) w w.heap.size ts u ty t i ht hu hi hz hsize hby _ 0 [] (World.ownsRow_nil w w.heap.size t 1) s h63 hbytes (nL _)
  obtain ⟨b, cap, rfl, hb, hlt, hsl⟩ := ownsRow_sl hown (by omega)
  exact ⟨b, 0, cap, w', hrun, hsl, hgr, .inr ⟨hb, hlt⟩⟩
 ·by_cases hroom : n + s.size ≤ cap
  ·have hfit0 := hfit
   have hfit := hfit.resolve_left (by omega)
   have hin : ∀ j, j < (strCells s).length → off + n + 0 + j < tot := fun j hj => by rw [strCells_length] at hj; omega
   have hst := run_storeCells_cells (P := P) b (off + n) (strCells s) 0 w (fun j hj => by obtain ⟨x, hx⟩ := hr.any (hin j hj); rw [hx]; rfl) (fun j hj => hr.frozen _) (strCells_oneCell s)
   simp only [Nat.add_zero] at hst
   have hf := run_firstCells_string (P := P) w 1 s
   have hrun : (Builtin.append_ #[ts, u] ty #[.slice (some ⟨b, off, none⟩) n cap, .string s]).run P w = .ok (.slice (some ⟨b, off, none⟩) (n + s.size) cap) (w.setCells b (off + n) (strCells s)) := by
    simp [Builtin.append_, run_underlying ht, run_underlying hu, sizeOf, typeInfo, hi, hsize, Builtin.lenOf, hroom, hf, Addr.add_lit, hst]
   refine ⟨b, off, cap, _, hrun, ⟨?_, .inr ⟨b, off, cap, tot, rfl, rfl, hroom, sl_setCells hr, hfit0, fun j hj => ?_⟩⟩, ⟨(setCells_keeps b _ _ w).1, (setCells_keeps b _ _ w).2.1, (setCells_keeps b _ _ w).2.2.1, Nat.le_of_eq (setCells_keeps b _ _ w).2.2.2.symm, fun k hk hne => ?_⟩, .inl rfl⟩
   ·rw [List.length_append, hxl, strCells_length, Nat.mul_one]
   ·by_cases hj' : j < xs.length
    ·rw [World.cell?_setCells_out b _ _ _ _ (fun _ _ => Or.inl (by show off + j < off + n; omega)), hcell j hj', List.getElem_append_left hj']
    ·have hj2 : j - xs.length < (strCells s).length := by rw [List.length_append] at hj; omega
     have := World.cell?_setCells_in b (strCells s) (off + n) w (fun k hk => by obtain ⟨x, hx⟩ := hr.any (j := off + n + k) (hin k hk); rw [hx]; rfl) (j - xs.length) hj2
     rw [show off + n + (j - xs.length) = off + j by omega] at this
     rw [this, List.getElem_append_right (by omega)]
   ·exact World.heap_setCells_other w b _ _ hk (fun e => hne (by rw [e]))
  ·have hrun := run_append_grow_string (P := P) w ts u ty t i _ ht hu hi hz ⟨b, off, none⟩ n cap xs (by rw [hsize]; exact h.len) (fun j x hx => by
    have hj := (List.getElem?_eq_some_iff.1 hx).1
    rw [Addr.add_lit, hcell j hj]
    rw [List.getElem?_eq_getElem hj] at hx
    exact hx) s (by omega) (by unfold maxLen at h63; omega) (by rw [hby]; exact growslice_fits (bytes := 1) (by omega) (by omega))
   have hge := grownCap_ge w (n + s.size) cap t
   have hnew : RowTo (w.drew.alloc (.cells (xs.toArray ++ (strCells s).toArray ++ Builtin.zeroCells (Value.int .u8 0).cells (grownCap w (n + s.size) cap t - (n + s.size))) t)) w.heap.size t (grownCap w (n + s.size) cap t) (xs ++ strCells s) := by
    refine ⟨_, heap_alloc_new w.drew _, ?_, ?_⟩
    ·have hz1 : (Builtin.zeroCells (Value.int .u8 0).cells (grownCap w (n + s.size) cap t - (n + s.size))).size = grownCap w (n + s.size) cap t - (n + s.size) := by rw [size_zeroCells]; simp [Value.cells]
     simp only [Array.size_append, List.size_toArray, hz1, strCells_length, hxl]
     omega
    ·simp only [Array.toList_append, List.append_assoc]
     rw [← List.append_assoc]
     exact List.take_left
   refine ⟨w.heap.size, 0, _, _, hrun, ⟨by rw [List.length_append, hxl, strCells_length, Nat.mul_one], .inr ⟨w.heap.size, 0, _, _, rfl, rfl, hge, hnew.nil, .inr (by omega), fun j hj => by rw [Nat.zero_add]; exact hnew.cell hj⟩⟩, ⟨rfl, rfl, rfl, by simp, fun k hk _ => Below.heap_alloc w.drew _ k hk⟩, .inr ⟨nL _, by simp⟩⟩
end Go.Proofs.YtpbaobmegomfpabGreatDoor
namespace Go.Proofs.YtpbaobmegomfpabGreatDoor
open Go.RowKit
theorem u8_size {n : Nat} (h : n ≤ 255) : ((UInt8.ofNat n).toNat : Int) = n := by
 rw [UInt8.toNat_ofNat', Nat.mod_eq_of_lt (by omega)]
theorem run_two (k : UInt8) (n : Nat) (hn : n ≤ 255) (w : World) :
  (convert 80 9 (.slice (some ⟨w.heap.size, 0, none⟩) 2 2)).run Tryz.prog (w.alloc (.cells #[.int .u8 k.toNat, .int .u8 n] 5)) = .ok (.string ⟨#[k, UInt8.ofNat n]⟩) (w.alloc (.cells #[.int .u8 k.toNat, .int .u8 n] 5)) := by
 refine run_convert_bytes_back (P := Tryz.prog) (w.alloc (.cells #[.int .u8 k.toNat, .int .u8 n] 5)) 80 9 5 ⟨w.heap.size, 0, none⟩ 2 [k, UInt8.ofNat n] Tryz.underlying80 Tryz.underlying5 Tryz.underlying9 ?_
 intro j hj
 match j, hj with
 | 0, _ => simp only [gCZ, Addr.add]; go_simp
 | 1, _ => simp only [gCS, gCZ, Addr.add]; rw [u8_size hn]; go_simp
set_option maxHeartbeats 400000 in
theorem pack_any (k : UInt8) (s : ByteArray) (w : World) (hs : s.size ≤ 120) :
  Calls Tryz.prog 36 #[.int .u8 k.toNat, .string s] w fun e w' => e = .returned (.tuple #[.string (msg k s), .int .i64 0]) ∧ Below w.heap.size w w' := by
 have hcv := run_two k s.size (by omega) w
 have hd : decide (120 < (s.size : Int)) = false := decide_eq_false (by omega)
 go_enter Tryz.func36, Tryz.ntmps36
 go_wp2
 go_ret2
 exact ⟨rfl, (Below.refl _ _).alloc (nL _) _⟩
set_option maxHeartbeats 400000 in
theorem unpack_ok (s : ByteArray) (w : World) (hs : s.size ≤ maxLen) (h2 : 2 ≤ s.size) (h : 2 + s[1].toNat ≤ s.size) :
  Calls Tryz.prog 37 #[.string s] w fun e w' => e = .returned (.tuple #[.int .u8 s[0].toNat, .string (s.extract 2 (2 + s[1].toNat)), .int .i64 ((2 : Int) + (s[1].toNat : Int))]) ∧ Below w.heap.size w w' := by
 unfold maxLen at hs
 have hby : s[1].toNat < 256 := s[1].toNat_lt
 have hd : decide ((s.size : Int) < 2) = false := decide_eq_false (by omega)
 have h0 : 0 < s.size := by omega
 have h0' : (0 : Int) < (s.size : Int) := by omega
 have hsz : (s.extract 2 (2 + s[1].toNat)).size ≤ 281474976710656 := by simp; omega
 have h3 : (0 : Int) ≤ (2 : Int) + (s[1].toNat : Int) := by omega
 have h4 : (2 : Int) ≤ (2 : Int) + (s[1].toNat : Int) := by omega
 have h5 : (2 : Int) + (s[1].toNat : Int) ≤ (s.size : Int) := by omega
 have h7 : ((2 : Int) + (s[1].toNat : Int)).toNat = 2 + s[1].toNat := by omega
 go_enter Tryz.func37, Tryz.ntmps37
 go_wp2
 go_region_held3 (fun w' => Below w.heap.size w w') (first | exact Below.refl _ _ | exact (Below.refl _ _).drew | assumption) (first | (go_at_call 46; refine (clone_any _ _ hsz).mono ?_; rintro e w1 ⟨rfl, hb⟩; have hb' : Below w.heap.size w w1 := ⟨hb.os, hb.tape, hb.output, hb.size, hb.block⟩))
 all_goals go_wp2
 all_goals go_ret3
 all_goals exact ⟨rfl, hb'⟩
theorem unpack_two (s : ByteArray) (w : World) (h2 : s.size < 2) :
  Calls Tryz.prog 37 #[.string s] w fun e w' => e = .returned (.tuple #[.int .u8 0, .string ⟨#[]⟩, .int .i64 0]) ∧ w = w' := by
 have hd : decide ((s.size : Int) < 2) = true := decide_eq_true (by omega)
 go_enter Tryz.func37, Tryz.ntmps37
 go_wp2
 go_ret3
 exact ⟨rfl, rfl⟩
set_option maxHeartbeats 400000 in
theorem unpack_cut (s : ByteArray) (w : World) (hs : s.size ≤ maxLen) (h2 : 2 ≤ s.size) (h : s.size < 2 + s[1].toNat) :
  Calls Tryz.prog 37 #[.string s] w fun e w' => e = .returned (.tuple #[.int .u8 0, .string ⟨#[]⟩, .int .i64 0]) ∧ w = w' := by
 unfold maxLen at hs
 have hby : s[1].toNat < 256 := s[1].toNat_lt
 have hd : decide ((s.size : Int) < 2) = false := decide_eq_false (by omega)
 go_enter Tryz.func37, Tryz.ntmps37
 go_wp2
 go_ret3
 exact ⟨rfl, rfl⟩
end Go.Proofs.YtpbaobmegomfpabGreatDoor
