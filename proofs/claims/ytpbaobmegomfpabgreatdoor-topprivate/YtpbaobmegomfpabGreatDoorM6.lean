/-
  Texts of the proof, one behind the other: PDo, SlS, Say2, OrdersG, PSend, PRel, PoolB, PSto.
-/
import Derived.Test.YtpbaobmegomfpabGreatDoorM5
import Derived.Test.YtpbaobmegomfpabGreatDoorM4
import Derived.Lib.AppendStr
import Derived.Test.YtpbaobmegomfpabGreatDoorRows
import Derived.Test.YtpbaobmegomfpabGreatDoorM1
import Derived.WalkKit
import Derived.WalkSpells
import Derived.WalkLawsBesides
import Derived.Deep.QuietTactic
import Derived.BigQuiet
import Derived.Lib.Hide
import Derived.IntWalk
import Derived.Deep.RegionHeld3
import Derived.Test.YtpbaobmegomfpabGreatDoorM3
import Derived.Lib.AppendZeros
set_option linter.unusedVariables false
set_option linter.unusedSimpArgs false
set_option maxRecDepth 100000
open List renaming getElem_toArray → gTA, getElem_cons_zero → gCZ, getElem_cons_succ → gCS, setIfInBounds_toArray → sTA, set_cons_zero → sCZ, set_cons_succ → sCS
open Go.Lib renaming hid → hD
open Nat renaming le_refl → nL
namespace Go.Proofs.YtpbaobmegomfpabGreatDoor
open Go.RowKit
structure Tabs (w : World) (base : Nat) : Prop where
 wo : Words w
 le : Leads w
 l1 : 1 < base
 l2 : 0 < base
theorem Tabs.below {w w' : World} {base : Nat} (h : Tabs w base) (hb : Below base w w') : Tabs w' base :=
 ⟨⟨Nat.lt_of_lt_of_le h.wo.room hb.size, fun k hk => (hb.cell (p := ⟨1, k, none⟩) h.l1).trans (h.wo.cell k hk)⟩, ⟨Nat.lt_of_lt_of_le h.le.room hb.size, fun k hk => (hb.cell (p := ⟨0, k, none⟩) h.l2).trans (h.le.cell k hk)⟩, h.l1, h.l2⟩
def Only (P : Nat) (w w' : World) : Prop := w.heap.size ≤ w'.heap.size ∧ ∀ b, b < w.heap.size → b ≠ P → w'.heap[b]? = w.heap[b]?
section
variable {P R : Nat} {w w' w2 : World}
theorem Only.refl (P : Nat) (w : World) : Only P w w := ⟨nL _, fun _ _ _ => rfl⟩
theorem Only.trans (h : Only P w w') (h2 : Only P w' w2) : Only P w w2 := ⟨Nat.le_trans h.1 h2.1, fun b hb hne => (h2.2 b (Nat.lt_of_lt_of_le hb h.1) hne).trans (h.2 b hb hne)⟩
theorem Only.below (h : Below w.heap.size w w') : Only P w w' := ⟨h.size, fun b hb _ => h.block b hb⟩
theorem Only.set (h : Only P w w') (j : Nat) (v : Value) : Only P w (w'.setCell ⟨P, j, none⟩ v) := ⟨by rw [size_set]; exact h.1, fun b hb hne => (set_off _ P j v b hne).trans (h.2 b hb hne)⟩
theorem Only.new (h : Only P w w') (hR : w.heap.size ≤ R) (j : Nat) (v : Value) : Only P w (w'.setCell ⟨R, j, none⟩ v) := ⟨by rw [size_set]; exact h.1, fun b hb hne => (set_off _ R j v b (by omega)).trans (h.2 b hb hne)⟩
theorem Only.lst {v : Value} {l : PL} (h : Only P w w') (hl : Lst w w.heap.size v l) (hp : InP (fun b => b ≠ P) v l) : Lst w' w'.heap.size v l := hl.keepP (own_lt hl hp) (fun b hb => h.2 b hb.2 hb.1) (fun b hb => Nat.lt_of_lt_of_le hb.2 h.1)
end
section
variable {base P : Nat} {f : Nat → Value} {G : Nat → Option Nat} {mode : Int} {m : Mach PE}
set_option maxHeartbeats 4000000 in
theorem doP_any (w : World) (h : PMem 0 w base P f G mode m) (hT : Tabs w base) (hok : WorldOk m.e.w) (s : Nat) (hs : s < m.e.w.ss.length) (r : Req) (hr : r.ok) :
  Calls Tryz.prog 75 #[ptr P 0, .int .i64 s, .agg #[.int .i64 r.k, .string r.key, .string r.val]] w fun e w' => ∃ f', e = .returned (.agg #[.int .i64 (doR m.e.w s r).2.kind, .string (doR m.e.w s r).2.text, .int .i64 ((doR m.e.w s r).1.at s).st]) ∧
   PMem 0 w' base P f' G mode { m with e := ⟨(doR m.e.w s r).1, m.e.kept⟩ } ∧ Below base w w' ∧ Only P w w' := by
 have hP := h.row.lt
 have hbP := (h.lo 0 P h.p0).1
 obtain ⟨A1, c1', hf2, _⟩ := h.wld.wld.sess.form
 obtain ⟨D1, d1, hf1, _⟩ := h.wld.wld.rows.form
 have n0 := ((Below.refl w.heap.size w).alloc (nL _) (.cells #[.int .i64 r.k, .string r.key, .string r.val] 41)).alloc (by simp) (.cells #[.int .i64 0, .string ⟨#[]⟩, .int .i64 0] 46)
 have a0 := (n0.cell (p := ⟨P, 1, none⟩) hP).trans (h.row.cell (j := 1) (by omega))
 have a1 := (n0.cell (p := ⟨P, 2, none⟩) hP).trans (h.row.cell (j := 2) (by omega))
 rw [hf1] at a0
 rw [hf2] at a1
 have X1 := (RowTo.whole w #[.int .i64 r.k, .string r.key, .string r.val] 41).alloc (.cells #[.int .i64 0, .string ⟨#[]⟩, .int .i64 0] 46)
 have HR1 := hD (RowTo.whole (w.alloc (.cells #[.int .i64 r.k, .string r.key, .string r.val] 41)) #[.int .i64 0, .string ⟨#[]⟩, .int .i64 0] 46)
 simp only [World.size_alloc] at HR1
 obtain ⟨x0, x1, x2⟩ := cells3 X1
 have hW1 := h.wld.wld.step n0
 rw [hf1, hf2] at hW1
 have HW1 := hD hW1
 have HWo := hD (hT.wo.below n0)
 have HH := hD (h.below n0)
 have HN0 := hD n0
 have HB0 := hD (n0.mono (Nat.le_trans hbP (Nat.le_of_lt hP)))
 have HDO := hD (fun (v1 v2 : Value) (wc : World) (h1 : Wld wc wc.heap.size v1 v2 m.e.w) (h2 : Words wc) => do_new v1 v2 m.e.w s r.k r.key r.val wc h1 h2 hok hs hr)
 obtain ⟨R, hR⟩ : ∃ R, doR m.e.w s r = R := ⟨_, rfl⟩
 have hR' : doM m.e.w s r.k r.key r.val = R := hR
 rw [hR'] at HDO
 rw [hR]
 obtain ⟨st, HST⟩ : ∃ st, Hid ((R.1.at s).st = st) := ⟨_, hD rfl⟩
 rw [HST.out] at HDO ⊢
 have hAl : P < ((w.alloc (.cells #[.int .i64 r.k, .string r.key, .string r.val] 41)).alloc (.cells #[.int .i64 0, .string ⟨#[]⟩, .int .i64 0] 46)).heap.size := by simp; omega
 have hXl := X1.lt
 generalize m.e.w.rows.length = n1 at *
 generalize m.e.w.ss.length = n2 at *
 have HLO := hD (fun i b (hi : G i = some b) => (h.lo i b hi).2)
 clear hR hR' hok hs hr hT X1 n0 hf1 hf2 h HST hW1
 unfold ptr
 go_enter Tryz.func75, Tryz.ntmps75
 go_wp2_with fail
 generalize hwr : (w.alloc (.cells #[.int .i64 r.k, .string r.key, .string r.val] 41)).alloc (.cells #[.int .i64 0, .string ⟨#[]⟩, .int .i64 0] 46) = wr at *
 have hsz : wr.heap.size = w.heap.size + 1 + 1 := by rw [← hwr]; simp
 clear hwr
 refine wp_region_z 15 (fun wx => wx.cell? ⟨P, 1, none⟩ = some (.slice D1 n1 d1) ∧ wx.cell? ⟨P, 2, none⟩ = some (.slice A1 n2 c1') ∧ wx.cell? ⟨w.heap.size, 0, none⟩ = some (.int .i64 r.k) ∧ wx.cell? ⟨w.heap.size, 1, none⟩ = some (.string r.key) ∧ wx.cell? ⟨w.heap.size, 2, none⟩ = some (.string r.val)) (by kernel_rfl) (show wr.drew.cell? ⟨P, 1, none⟩ = some (.slice D1 n1 d1) ∧ wr.drew.cell? ⟨P, 2, none⟩ = some (.slice A1 n2 c1') ∧ wr.drew.cell? ⟨w.heap.size, 0, none⟩ = some (.int .i64 r.k) ∧ wr.drew.cell? ⟨w.heap.size, 1, none⟩ = some (.string r.key) ∧ wr.drew.cell? ⟨w.heap.size, 2, none⟩ = some (.string r.val) from ⟨a0, a1, x0, x1, x2⟩) (fun hS => ?_)
 refine tkZ 0 ?v0 rfl ?y0 hS ?r0
 case y0 => (intro w hSw; (try dsimp only at hSw); (try simp only [gTA, gCZ, gCS]); go_simp; try with_reducible rfl)
 (try simp only [gTA, gCZ, gCS, Act.put, sTA, sCZ, sCS])
 refine tkZ 1 ?v1 rfl ?y1 hS ?r1
 case y1 => (intro w hSw; (try dsimp only at hSw); (try simp only [gTA, gCZ, gCS]); go_simp; try with_reducible rfl)
 (try simp only [gTA, gCZ, gCS, Act.put, sTA, sCZ, sCS])
 refine tkZ 2 ?v2 rfl ?y2 hS ?r2
 case y2 => (intro w hSw; (try dsimp only at hSw); (try simp only [gTA, gCZ, gCS]); go_simp; try with_reducible rfl)
 (try simp only [gTA, gCZ, gCS, Act.put, sTA, sCZ, sCS])
 refine tkZ 3 ?v3 rfl ?y3 hS ?r3
 case y3 => (intro w hSw; (try dsimp only at hSw); (try simp only [gTA, gCZ, gCS]); go_simp; try with_reducible rfl)
 (try simp only [gTA, gCZ, gCS, Act.put, sTA, sCZ, sCS])
 refine tkZ 4 ?v4 rfl ?y4 hS ?r4
 case y4 => (intro w hSw; (try dsimp only at hSw); (try simp only [gTA, gCZ, gCS]); go_simp; try with_reducible rfl)
 (try simp only [gTA, gCZ, gCS, Act.put, sTA, sCZ, sCS])
 refine tkZ 5 ?v5 rfl ?y5 hS ?r5
 case y5 => (intro w hSw; (try dsimp only at hSw); (try simp only [gTA, gCZ, gCS]); go_simp; try with_reducible rfl)
 (try simp only [gTA, gCZ, gCS, Act.put, sTA, sCZ, sCS])
 refine grid0 (C := 1) (cop := fun c => 6) (dst := fun c => 17) (p := 11) (q := 12) (dp := 7) (dq := 8) (tp := 39) (tq := 46) (zp := #[.slice none 0 0, .slice none 0 0]) (zq := #[.int .i64 0, .string ⟨#[]⟩, .int .i64 0])
  (Lst := fun c x y => #[true, true, true, true, true, true, decide (0 < c), false, false, false, false, x, y, false, false, false]) (Lst' := fun x y => #[true, true, true, true, true, true, true, true, true, true, true, x, y, false, false, false]) ?gG (DJ wr 0 (fun _ => (0, .int .i64 0)) 17 (fun r2 s2 => doGood r2 s2 R.2 st) (fun r2 s2 wc => WldP wc (fun b => wr.heap.size ≤ b) r2 s2 R.1)) (DJ' wr (fun A0 r2 s2 => (((((putsN A0 (fun _ => (0, .int .i64 0)) 0).put (some 17) (doGood r2 s2 R.2 st)).put (some 10) (doGood r2 s2 R.2 st)).put (some 18) (.agg #[r2, s2])).put (some 19) (.agg #[.int .i64 R.2.kind, .string R.2.text, .int .i64 st])).put (some 20) (.int .i64 0)) (fun r2 s2 wc => WldP wc (fun b => wr.heap.size ≤ b) r2 s2 R.1)) 3 4 wr.heap.size (dj_alloc (fun r s w o h => wldP_alloc r s w o h)) (dj'_alloc (fun r s w o h => wldP_alloc r s w o h)) ?g3 ?g4 (fun c a w h => h.1.size) (fun a w h => h.1.size) ?g5 ?g6 ?g7 ⟨(Below.refl _ _).drew, fun _ => rfl, fun h => absurd h (by omega)⟩
 case gG =>
  refine ⟨⟨_, rfl, rfl, rfl, fun ev w => (by go_simp; rfl)⟩, ⟨_, rfl, rfl, rfl, fun ev w => (by go_simp; rfl)⟩, (by decide), fun c h => (by (repeat' split) <;> decide), fun c x y h => ?_, fun x y h => (match x, y, h with | false, false, _ => (by kernel_rfl) | false, true, _ => (by kernel_rfl) | true, false, _ => (by kernel_rfl) | true, true, h => (by cases h)), fun c x y h => ?_, fun c y h => rfl, fun c x h => rfl, fun y => rfl, fun x => rfl⟩
  ·match c, h with
   | 0, _ => cases x <;> cases y <;> (show _ = _; kernel_rfl)
  ·match c, h with
   | 0, _ => rfl
 case g3 => exact fun c a wc h => ⟨(h.1.cell (p := ⟨P, 1, none⟩) hAl).trans a0, (h.1.cell (p := ⟨P, 2, none⟩) hAl).trans a1, (h.1.cell (p := ⟨w.heap.size, 0, none⟩) hXl).trans x0, (h.1.cell (p := ⟨w.heap.size, 1, none⟩) hXl).trans x1, (h.1.cell (p := ⟨w.heap.size, 2, none⟩) hXl).trans x2⟩
 case g4 => exact fun a wc h => ⟨(h.1.cell (p := ⟨P, 1, none⟩) hAl).trans a0, (h.1.cell (p := ⟨P, 2, none⟩) hAl).trans a1, (h.1.cell (p := ⟨w.heap.size, 0, none⟩) hXl).trans x0, (h.1.cell (p := ⟨w.heap.size, 1, none⟩) hXl).trans x1, (h.1.cell (p := ⟨w.heap.size, 2, none⟩) hXl).trans x2⟩
 case g5 =>
  intro c0 a wc x' y hc0 hj hx hy
  match c0, hc0, hj with
  | 0, _, hj =>
   obtain ⟨hb, hf, _⟩ := hj
   obtain rfl := hf (by omega)
   refine wpOp_wp rfl rfl (wp_call (g := 23) (args := #[.agg #[.slice D1 n1 d1, .slice A1 n2 c1'], .int .i64 s, .agg #[.int .i64 r.k, .string r.key, .string r.val]]) ?_ ?_)
   ·cases x' <;> cases y <;> (simp only [fr, pt, doGood, doBad, putsN, Act.put, sTA, sCZ, sCS]; go_simp; try rfl)
   ·refine (HDO.out _ _ wc (HW1.out.step hb) (HWo.out.below hb)).mono ?_
    rintro e w3 ⟨r2, s2, rfl, hw3, hb3⟩
    exact ⟨_, rfl, _, rfl, ⟨bel_add' hb hb3 hb.size, fun h => absurd h (by omega), fun _ => ⟨r2, s2, rfl, hw3.mono (fun b hq => Nat.le_trans hb.size hq)⟩⟩, zs_below hx hb3, zs_below hy hb3⟩
 case g6 =>
  intro a wc x' y n' hj hx hy hk'
  obtain ⟨hb, _, hj⟩ := hj
  obtain ⟨r2, s2, rfl, hw3⟩ := hj (by omega)
  have hS : wc.cell? ⟨P, 1, none⟩ = some (.slice D1 n1 d1) ∧ wc.cell? ⟨P, 2, none⟩ = some (.slice A1 n2 c1') ∧ wc.cell? ⟨w.heap.size, 0, none⟩ = some (.int .i64 r.k) ∧ wc.cell? ⟨w.heap.size, 1, none⟩ = some (.string r.key) ∧ wc.cell? ⟨w.heap.size, 2, none⟩ = some (.string r.val) := ⟨(hb.cell (p := ⟨P, 1, none⟩) hAl).trans a0, (hb.cell (p := ⟨P, 2, none⟩) hAl).trans a1, (hb.cell (p := ⟨w.heap.size, 0, none⟩) hXl).trans x0, (hb.cell (p := ⟨w.heap.size, 1, none⟩) hXl).trans x1, (hb.cell (p := ⟨w.heap.size, 2, none⟩) hXl).trans x2⟩
  have hk' := hk' _ ⟨hb, r2, s2, rfl, hw3⟩
  clear hx hy hw3
  cases x' <;> cases y
  all_goals
   simp only [fr, pt, doGood, doBad, putsN, Act.put, sTA, sCZ, sCS]
   simp only [fr, pt, doGood, doBad, putsN, Act.put, sTA, sCZ, sCS] at hk'
   refine tkZ 7 ?_ rfl ?_ hS ?_
   rotate_left
   ·(intro w hSw; (try dsimp only at hSw); (try simp only [gTA, gCZ, gCS]); go_simp; try with_reducible rfl)
   (try simp only [gTA, gCZ, gCS, Act.put, sTA, sCZ, sCS])
   refine tkZ 8 ?_ rfl ?_ hS ?_
   rotate_left
   ·(intro w hSw; (try dsimp only at hSw); (try simp only [gTA, gCZ, gCS]); go_simp; try with_reducible rfl)
   (try simp only [gTA, gCZ, gCS, Act.put, sTA, sCZ, sCS])
   refine tkZ 9 ?_ rfl ?_ hS ?_
   rotate_left
   ·(intro w hSw; (try dsimp only at hSw); (try simp only [gTA, gCZ, gCS]); go_simp; try with_reducible rfl)
   (try simp only [gTA, gCZ, gCS, Act.put, sTA, sCZ, sCS])
   refine tkZ 10 ?_ rfl ?_ hS ?_
   rotate_left
   ·(intro w hSw; (try dsimp only at hSw); (try simp only [gTA, gCZ, gCS]); go_simp; try with_reducible rfl)
   (try simp only [gTA, gCZ, gCS, Act.put, sTA, sCZ, sCS])
   exact hk'
 case g7 =>
  intro a wc b1 c1 hj hx hy
  obtain ⟨hb, r2, s2, rfl, hw3⟩ := hj
  have hS : wc.cell? ⟨P, 1, none⟩ = some (.slice D1 n1 d1) ∧ wc.cell? ⟨P, 2, none⟩ = some (.slice A1 n2 c1') ∧ wc.cell? ⟨w.heap.size, 0, none⟩ = some (.int .i64 r.k) ∧ wc.cell? ⟨w.heap.size, 1, none⟩ = some (.string r.key) ∧ wc.cell? ⟨w.heap.size, 2, none⟩ = some (.string r.val) := ⟨(hb.cell (p := ⟨P, 1, none⟩) hAl).trans a0, (hb.cell (p := ⟨P, 2, none⟩) hAl).trans a1, (hb.cell (p := ⟨w.heap.size, 0, none⟩) hXl).trans x0, (hb.cell (p := ⟨w.heap.size, 1, none⟩) hXl).trans x1, (hb.cell (p := ⟨w.heap.size, 2, none⟩) hXl).trans x2⟩
  have hB1 := (hx b1 rfl).1
  have hC1 := (hy c1 rfl).1
  have hX1 := zs_row hx
  have hY1 := zs_row hy
  have hbc : b1 ≠ c1 := fun e => by have h1 := (hx b1 rfl).2; have h2 := (hy c1 rfl).2; rw [e, h2] at h1; injection h1 with h1; injection h1 with _ h1 _; exact absurd h1 (by decide)
  obtain ⟨A2, c2, rfl, _⟩ := hw3.wld.sess.form
  obtain ⟨D2, d2', rfl, _⟩ := hw3.wld.rows.form
  have HX1 := hD hX1
  have HY1 := hD hY1
  have HW3 := hD hw3
  have HBL := hD hb
  obtain ⟨z0, z1⟩ := cells2 hX1
  have f0 := hX1.frozen 0
  have f1 := hX1.frozen 1
  have HY2 := hD (hY1.oth2 hbc (.slice D2 R.1.rows.length d2') (.slice A2 R.1.ss.length c2))
  have nb0 : b1 ≠ P := by omega
  have nc0 : c1 ≠ P := by omega
  have nb1 : b1 ≠ w.heap.size := by omega
  have nc1 : c1 ≠ w.heap.size := by omega
  clear hX1 hY1 hx hy hw3
  simp only [fr, pt, doGood, doBad, putsN, Act.put, sTA, sCZ, sCS]
  refine wpAnyZ_one (i := 13) rfl rfl (by kernel_rfl) (fun K hK => ?_)
  (try simp only [gTA, gCZ, gCS])
  go_simp
  have hS2 := (show ((wc.setCell ⟨b1, 0, none⟩ (.slice D2 R.1.rows.length d2')).setCell ⟨b1, 1, none⟩ (.slice A2 R.1.ss.length c2)).cell? ⟨P, 1, none⟩ = some (.slice D1 n1 d1) ∧ ((wc.setCell ⟨b1, 0, none⟩ (.slice D2 R.1.rows.length d2')).setCell ⟨b1, 1, none⟩ (.slice A2 R.1.ss.length c2)).cell? ⟨P, 2, none⟩ = some (.slice A1 n2 c1') ∧ ((wc.setCell ⟨b1, 0, none⟩ (.slice D2 R.1.rows.length d2')).setCell ⟨b1, 1, none⟩ (.slice A2 R.1.ss.length c2)).cell? ⟨w.heap.size, 0, none⟩ = some (.int .i64 r.k) ∧ ((wc.setCell ⟨b1, 0, none⟩ (.slice D2 R.1.rows.length d2')).setCell ⟨b1, 1, none⟩ (.slice A2 R.1.ss.length c2)).cell? ⟨w.heap.size, 1, none⟩ = some (.string r.key) ∧ ((wc.setCell ⟨b1, 0, none⟩ (.slice D2 R.1.rows.length d2')).setCell ⟨b1, 1, none⟩ (.slice A2 R.1.ss.length c2)).cell? ⟨w.heap.size, 2, none⟩ = some (.string r.val) from ⟨cell_sty (p := ⟨b1, 1, none⟩) nb0 (cell_sty (p := ⟨b1, 0, none⟩) nb0 hS.1), cell_sty (p := ⟨b1, 1, none⟩) nb0 (cell_sty (p := ⟨b1, 0, none⟩) nb0 hS.2.1), cell_sty (p := ⟨b1, 1, none⟩) nb1 (cell_sty (p := ⟨b1, 0, none⟩) nb1 hS.2.2.1), cell_sty (p := ⟨b1, 1, none⟩) nb1 (cell_sty (p := ⟨b1, 0, none⟩) nb1 hS.2.2.2.1), cell_sty (p := ⟨b1, 1, none⟩) nb1 (cell_sty (p := ⟨b1, 0, none⟩) nb1 hS.2.2.2.2)⟩)
  refine hK.out _ _ hS2 ?_
  clear hK K hS
  have hS := hS2
  clear hS2
  (try simp only [gTA, gCZ, gCS, Act.put, sTA, sCZ, sCS])
  obtain ⟨p0, p1, p2⟩ := cells3 HY2.out
  have g0 := HY2.out.frozen 0
  have g1 := HY2.out.frozen 1
  have g2 := HY2.out.frozen 2
  refine wpAnyZ_one (i := 14) rfl rfl (by kernel_rfl) (fun K hK => ?_)
  (try simp only [gTA, gCZ, gCS])
  go_simp
  have hS2 := (show (((((wc.setCell ⟨b1, 0, none⟩ (.slice D2 R.1.rows.length d2')).setCell ⟨b1, 1, none⟩ (.slice A2 R.1.ss.length c2)).setCell ⟨c1, 0, none⟩ (.int .i64 R.2.kind)).setCell ⟨c1, 1, none⟩ (.string R.2.text)).setCell ⟨c1, 2, none⟩ (.int .i64 st)).cell? ⟨P, 1, none⟩ = some (.slice D1 n1 d1) ∧ (((((wc.setCell ⟨b1, 0, none⟩ (.slice D2 R.1.rows.length d2')).setCell ⟨b1, 1, none⟩ (.slice A2 R.1.ss.length c2)).setCell ⟨c1, 0, none⟩ (.int .i64 R.2.kind)).setCell ⟨c1, 1, none⟩ (.string R.2.text)).setCell ⟨c1, 2, none⟩ (.int .i64 st)).cell? ⟨P, 2, none⟩ = some (.slice A1 n2 c1') ∧ (((((wc.setCell ⟨b1, 0, none⟩ (.slice D2 R.1.rows.length d2')).setCell ⟨b1, 1, none⟩ (.slice A2 R.1.ss.length c2)).setCell ⟨c1, 0, none⟩ (.int .i64 R.2.kind)).setCell ⟨c1, 1, none⟩ (.string R.2.text)).setCell ⟨c1, 2, none⟩ (.int .i64 st)).cell? ⟨w.heap.size, 0, none⟩ = some (.int .i64 r.k) ∧ (((((wc.setCell ⟨b1, 0, none⟩ (.slice D2 R.1.rows.length d2')).setCell ⟨b1, 1, none⟩ (.slice A2 R.1.ss.length c2)).setCell ⟨c1, 0, none⟩ (.int .i64 R.2.kind)).setCell ⟨c1, 1, none⟩ (.string R.2.text)).setCell ⟨c1, 2, none⟩ (.int .i64 st)).cell? ⟨w.heap.size, 1, none⟩ = some (.string r.key) ∧ (((((wc.setCell ⟨b1, 0, none⟩ (.slice D2 R.1.rows.length d2')).setCell ⟨b1, 1, none⟩ (.slice A2 R.1.ss.length c2)).setCell ⟨c1, 0, none⟩ (.int .i64 R.2.kind)).setCell ⟨c1, 1, none⟩ (.string R.2.text)).setCell ⟨c1, 2, none⟩ (.int .i64 st)).cell? ⟨w.heap.size, 2, none⟩ = some (.string r.val) from ⟨cell_sty (p := ⟨c1, 2, none⟩) nc0 (cell_sty (p := ⟨c1, 1, none⟩) nc0 (cell_sty (p := ⟨c1, 0, none⟩) nc0 hS.1)), cell_sty (p := ⟨c1, 2, none⟩) nc0 (cell_sty (p := ⟨c1, 1, none⟩) nc0 (cell_sty (p := ⟨c1, 0, none⟩) nc0 hS.2.1)), cell_sty (p := ⟨c1, 2, none⟩) nc1 (cell_sty (p := ⟨c1, 1, none⟩) nc1 (cell_sty (p := ⟨c1, 0, none⟩) nc1 hS.2.2.1)), cell_sty (p := ⟨c1, 2, none⟩) nc1 (cell_sty (p := ⟨c1, 1, none⟩) nc1 (cell_sty (p := ⟨c1, 0, none⟩) nc1 hS.2.2.2.1)), cell_sty (p := ⟨c1, 2, none⟩) nc1 (cell_sty (p := ⟨c1, 1, none⟩) nc1 (cell_sty (p := ⟨c1, 0, none⟩) nc1 hS.2.2.2.2))⟩)
  refine hK.out _ _ hS2 ?_
  clear hK K hS
  have hS := hS2
  clear hS2
  (try simp only [gTA, gCZ, gCS, Act.put, sTA, sCZ, sCS])
  refine wpAnyZ_last rfl rfl (by kernel_rfl) (by kernel_rfl) (fun K hK => ?_)
  (try simp only [gTA, gCZ, gCS])
  go_simp
  refine hK.out _ _ ?_
  clear hK K
  (try simp only [gTA, gCZ, gCS, Act.put, sTA, sCZ, sCS])
  have H9 := hD (new_at (a := R.2) (st := st) HX1.out HY1.out HW3.out HBL.out hB1 hC1 hbc)
  clear hS z0 z1 f0 f1 p0 p1 p2 g0 g1 g2 HY2 nb0 nc0 nb1 nc1 hbc hB1 hC1 HX1 HY1 HW3 HBL hb a0 a1 x0 x1 x2
  generalize (((((wc.setCell ⟨b1, 0, none⟩ (.slice D2 R.1.rows.length d2')).setCell ⟨b1, 1, none⟩ (.slice A2 R.1.ss.length c2)).setCell ⟨c1, 0, none⟩ (.int .i64 R.2.kind)).setCell ⟨c1, 1, none⟩ (.string R.2.text)).setCell ⟨c1, 2, none⟩ (.int .i64 st)) = W9 at *
  clear hS
  obtain ⟨b0, b1'⟩ := cells2 H9.out.b
  obtain ⟨a0, a1, a2⟩ := cells3 H9.out.c
  have hM9 := HH.out.below H9.out.bel
  have f0 := hM9.row.frozen 1
  have f1 := hM9.row.frozen 2
  have p0 := hM9.row.cell (j := 1) (by omega)
  have p1 := hM9.row.cell (j := 2) (by omega)
  have hB9 := HB0.out.trans (H9.out.bel.mono (Nat.le_trans hbP (by omega)))
  have hw9 := H9.out.wld.mono (Q := Free G) (fun b hb i hi => by have := (HH.out.lo i b hi).2; omega)
  have HF := hD (And.intro (hM9.setWorld hw9) ((hB9.setCell (p := ⟨P, 1, none⟩) hbP (.slice D2 R.1.rows.length d2')).setCell (p := ⟨P, 2, none⟩) hbP (.slice A2 R.1.ss.length c2)))
  have hPc : P ≠ c1 := by have := H9.out.lc; omega
  have C9 := (H9.out.c.other (p := ⟨P, 1, none⟩) hPc (.slice D2 R.1.rows.length d2')).other (p := ⟨P, 2, none⟩) hPc (.slice A2 R.1.ss.length c2)
  obtain ⟨e0, e1, e2⟩ := cells3 C9
  have hlb := H9.out.b.lt
  have hlc := H9.out.c.lt
  have hz9 := H9.out.bel.size
  have R9 := ((HR1.out.below H9.out.bel (by omega)).other (p := ⟨P, 1, none⟩) (by show P ≠ w.heap.size + 1; omega) (.slice D2 R.1.rows.length d2')).other (p := ⟨P, 2, none⟩) (by show P ≠ w.heap.size + 1; omega) (.slice A2 R.1.ss.length c2)
  obtain ⟨r0, r1, r2'⟩ := cells3 R9
  have g0 := R9.frozen 0
  have g1 := R9.frozen 1
  have g2 := R9.frozen 2
  have hGR : ∀ i, G i ≠ some (w.heap.size + 1) := fun i hi => by have := (HLO.out i _ hi); omega
  have HF2 := hD (And.intro (HF.out.1.ans3 R9 hGR (.int .i64 R.2.kind) (.string R.2.text) (.int .i64 st)) (bel_set3 HF.out.2 (show base ≤ w.heap.size + 1 by omega) (.int .i64 R.2.kind) (.string R.2.text) (.int .i64 st)))
  have HO := hD ((((((Only.below (P := P) (HN0.out.trans (H9.out.bel.mono (by omega)))).set 1 (.slice D2 R.1.rows.length d2')).set 2 (.slice A2 R.1.ss.length c2)).new (R := w.heap.size + 1) (by omega) 0 (.int .i64 R.2.kind)).new (R := w.heap.size + 1) (by omega) 1 (.string R.2.text)).new (R := w.heap.size + 1) (by omega) 2 (.int .i64 st))
  clear hM9 hB9 hw9 C9 H9 HH HN0 HB0 HW1 HWo HDO HF R9 hGR HR1 HLO
  go_wp2
  refine bodyPost_ret (v := .agg #[.int .i64 R.2.kind, .string R.2.text, .int .i64 st]) (by simp [results, Tryz.results75, go_sem, r0, r1, r2']) rfl ⟨_, rfl, HF2.out.1, HF2.out.2, HO.out⟩
end
end Go.Proofs.YtpbaobmegomfpabGreatDoor
namespace Go.Proofs.YtpbaobmegomfpabGreatDoor
open Go.RowKit Go.Lib
theorem Sl.appendStr {P : Program} {w : World} {t n : Nat} {v : Value} {g : Option Nat} {xs : List Value} (h : Sl w t 1 v g n xs) (ts u ty : TypeId) (i : TypeInfo) (ht : P.underlying ts = some (.slice t)) (hu : P.underlying u = some .string) (hi : P.info? t = some i) (hz : i.zero = some (.int .u8 0))
  (hsize : i.size = 1) (hby : i.bytes = 1) (s : ByteArray) (hs : 0 < s.size) (h63 : n + s.size ≤ maxLen) (hbytes : n + s.size ≤ 140737488355328) :
  ∃ b off cap w', (Builtin.append_ #[ts, u] ty #[v, .string s]).run P w = .ok (.slice (some ⟨b, off, none⟩) (n + s.size) cap) w' ∧ Sl w' t 1 (.slice (some ⟨b, off, none⟩) (n + s.size) cap) (some b) (n + s.size) (xs ++ strCells s) ∧
   w.grownBy w' g ∧ (g = some b ∨ (w.heap.size ≤ b ∧ b < w'.heap.size)) := by
 have hxl : xs.length = n := by simpa using h.len
 rcases h.form with ⟨rfl, rfl, rfl⟩ | ⟨b, off, cap, tot, rfl, rfl, hc, hr, hfit, hcell⟩
 ·have hx : xs = [] := List.eq_nil_of_length_eq_zero (by simpa using h.len)
  subst hx
  obtain ⟨v', w', hrun, hown, hgr, _⟩ := run_append_own_string (P := P) w w.heap.size ts u ty t i ht hu hi hz hsize hby _ 0 [] (World.ownsRow_nil w w.heap.size t 1) s h63 hbytes (nL _)
  obtain ⟨b, cap, rfl, hb, hlt, hsl⟩ := ownsRow_sl hown (by omega)
  exact ⟨b, 0, cap, w', hrun, hsl, hgr, .inr ⟨hb, hlt⟩⟩
 ·by_cases hroom : n + s.size ≤ cap
  ·have hfit0 := hfit
   have hfit := hfit.resolve_left (by omega)
   have hin : ∀ j, j < (strCells s).length → off + n + 0 + j < tot := fun j hj => by rw [strCells_length] at hj; omega
   have hst := run_storeCells_cells (P := P) b (off + n) (strCells s) 0 w (fun j hj => by obtain ⟨x, hx⟩ := hr.any (hin j hj); rw [hx]; rfl) (fun j hj => hr.frozen _) (strCells_oneCell s)
   simp only [Nat.add_zero] at hst
   have hf := run_firstCells_string (P := P) w 1 s
   have hrun : (Builtin.append_ #[ts, u] ty #[.slice (some ⟨b, off, none⟩) n cap, .string s]).run P w = .ok (.slice (some ⟨b, off, none⟩) (n + s.size) cap) (w.setCells b (off + n) (strCells s)) := by
    simp [Builtin.append_, run_underlying ht, run_underlying hu, sizeOf, typeInfo, hi, hsize, Builtin.lenOf, hroom, hf, Addr.add_lit, hst]
   refine ⟨b, off, cap, _, hrun, ⟨?_, .inr ⟨b, off, cap, tot, rfl, rfl, hroom, sl_setCells hr, hfit0, fun j hj => ?_⟩⟩, ⟨(setCells_keeps b _ _ w).1, (setCells_keeps b _ _ w).2.1, (setCells_keeps b _ _ w).2.2.1, Nat.le_of_eq (setCells_keeps b _ _ w).2.2.2.symm, fun k hk hne => ?_⟩, .inl rfl⟩
   ·rw [List.length_append, hxl, strCells_length, Nat.mul_one]
   ·by_cases hj' : j < xs.length
    ·rw [World.cell?_setCells_out b _ _ _ _ (fun _ _ => Or.inl (by show off + j < off + n; omega)), hcell j hj', List.getElem_append_left hj']
    ·have hj2 : j - xs.length < (strCells s).length := by rw [List.length_append] at hj; omega
     have := World.cell?_setCells_in b (strCells s) (off + n) w (fun k hk => by obtain ⟨x, hx⟩ := hr.any (j := off + n + k) (hin k hk); rw [hx]; rfl) (j - xs.length) hj2
     rw [show off + n + (j - xs.length) = off + j by omega] at this
     rw [this, List.getElem_append_right (by omega)]
   ·exact World.heap_setCells_other w b _ _ hk (fun e => hne (by rw [e]))
  ·have hrun := run_append_grow_string (P := P) w ts u ty t i _ ht hu hi hz ⟨b, off, none⟩ n cap xs (by rw [hsize]; exact h.len) (fun j x hx => by
    have hj := (List.getElem?_eq_some_iff.1 hx).1
    rw [Addr.add_lit, hcell j hj]
    rw [List.getElem?_eq_getElem hj] at hx
    exact hx) s (by omega) (by unfold maxLen at h63; omega) (by rw [hby]; exact growslice_fits (bytes := 1) (by omega) (by omega))
   have hge := grownCap_ge w (n + s.size) cap t
   have hnew : RowTo (w.drew.alloc (.cells (xs.toArray ++ (strCells s).toArray ++ Builtin.zeroCells (Value.int .u8 0).cells (grownCap w (n + s.size) cap t - (n + s.size))) t)) w.heap.size t (grownCap w (n + s.size) cap t) (xs ++ strCells s) := by
    refine ⟨_, heap_alloc_new w.drew _, ?_, ?_⟩
    ·have hz1 : (Builtin.zeroCells (Value.int .u8 0).cells (grownCap w (n + s.size) cap t - (n + s.size))).size = grownCap w (n + s.size) cap t - (n + s.size) := by rw [size_zeroCells]; simp [Value.cells]
     simp only [Array.size_append, List.size_toArray, hz1, strCells_length, hxl]
     omega
    ·simp only [Array.toList_append, List.append_assoc]
     rw [← List.append_assoc]
     exact List.take_left
   refine ⟨w.heap.size, 0, _, _, hrun, ⟨by rw [List.length_append, hxl, strCells_length, Nat.mul_one], .inr ⟨w.heap.size, 0, _, _, rfl, rfl, hge, hnew.nil, .inr (by omega), fun j hj => by rw [Nat.zero_add]; exact hnew.cell hj⟩⟩, ⟨rfl, rfl, rfl, by simp, fun k hk _ => Below.heap_alloc w.drew _ k hk⟩, .inr ⟨nL _, by simp⟩⟩
end Go.Proofs.YtpbaobmegomfpabGreatDoor
namespace Go.Proofs.YtpbaobmegomfpabGreatDoor
open Go.RowKit
theorem u8_size {n : Nat} (h : n ≤ 255) : ((UInt8.ofNat n).toNat : Int) = n := by
 rw [UInt8.toNat_ofNat', Nat.mod_eq_of_lt (by omega)]
theorem run_two (k : UInt8) (n : Nat) (hn : n ≤ 255) (w : World) :
  (convert 80 9 (.slice (some ⟨w.heap.size, 0, none⟩) 2 2)).run Tryz.prog (w.alloc (.cells #[.int .u8 k.toNat, .int .u8 n] 5)) = .ok (.string ⟨#[k, UInt8.ofNat n]⟩) (w.alloc (.cells #[.int .u8 k.toNat, .int .u8 n] 5)) := by
 refine run_convert_bytes_back (P := Tryz.prog) (w.alloc (.cells #[.int .u8 k.toNat, .int .u8 n] 5)) 80 9 5 ⟨w.heap.size, 0, none⟩ 2 [k, UInt8.ofNat n] Tryz.underlying80 Tryz.underlying5 Tryz.underlying9 ?_
 intro j hj
 match j, hj with
 | 0, _ => simp only [gCZ, Addr.add]; go_simp
 | 1, _ => simp only [gCS, gCZ, Addr.add]; rw [u8_size hn]; go_simp
set_option maxHeartbeats 400000 in
theorem pack_any (k : UInt8) (s : ByteArray) (w : World) (hs : s.size ≤ 120) :
  Calls Tryz.prog 36 #[.int .u8 k.toNat, .string s] w fun e w' => e = .returned (.tuple #[.string (msg k s), .int .i64 0]) ∧ Below w.heap.size w w' := by
 have hcv := run_two k s.size (by omega) w
 have hd : decide (120 < (s.size : Int)) = false := decide_eq_false (by omega)
 go_enter Tryz.func36, Tryz.ntmps36
 go_wp2
 go_ret2
 exact ⟨rfl, (Below.refl _ _).alloc (nL _) _⟩
set_option maxHeartbeats 400000 in
theorem unpack_ok (s : ByteArray) (w : World) (hs : s.size ≤ maxLen) (h2 : 2 ≤ s.size) (h : 2 + s[1].toNat ≤ s.size) :
  Calls Tryz.prog 37 #[.string s] w fun e w' => e = .returned (.tuple #[.int .u8 s[0].toNat, .string (s.extract 2 (2 + s[1].toNat)), .int .i64 ((2 : Int) + (s[1].toNat : Int))]) ∧ Below w.heap.size w w' := by
 unfold maxLen at hs
 have hby : s[1].toNat < 256 := s[1].toNat_lt
 have hd : decide ((s.size : Int) < 2) = false := decide_eq_false (by omega)
 have h0 : 0 < s.size := by omega
 have h0' : (0 : Int) < (s.size : Int) := by omega
 have hsz : (s.extract 2 (2 + s[1].toNat)).size ≤ 281474976710656 := by simp; omega
 have h3 : (0 : Int) ≤ (2 : Int) + (s[1].toNat : Int) := by omega
 have h4 : (2 : Int) ≤ (2 : Int) + (s[1].toNat : Int) := by omega
 have h5 : (2 : Int) + (s[1].toNat : Int) ≤ (s.size : Int) := by omega
 have h7 : ((2 : Int) + (s[1].toNat : Int)).toNat = 2 + s[1].toNat := by omega
 go_enter Tryz.func37, Tryz.ntmps37
 go_wp2
 go_region_held3 (fun w' => Below w.heap.size w w') (first | exact Below.refl _ _ | exact (Below.refl _ _).drew | assumption) (first | (go_at_call 46; refine (clone_any _ _ hsz).mono ?_; rintro e w1 ⟨rfl, hb⟩; have hb' : Below w.heap.size w w1 := ⟨hb.os, hb.tape, hb.output, hb.size, hb.block⟩))
 all_goals go_wp2
 all_goals go_ret3
 all_goals exact ⟨rfl, hb'⟩
theorem unpack_two (s : ByteArray) (w : World) (h2 : s.size < 2) :
  Calls Tryz.prog 37 #[.string s] w fun e w' => e = .returned (.tuple #[.int .u8 0, .string ⟨#[]⟩, .int .i64 0]) ∧ w = w' := by
 have hd : decide ((s.size : Int) < 2) = true := decide_eq_true (by omega)
 go_enter Tryz.func37, Tryz.ntmps37
 go_wp2
 go_ret3
 exact ⟨rfl, rfl⟩
set_option maxHeartbeats 400000 in
theorem unpack_cut (s : ByteArray) (w : World) (hs : s.size ≤ maxLen) (h2 : 2 ≤ s.size) (h : s.size < 2 + s[1].toNat) :
  Calls Tryz.prog 37 #[.string s] w fun e w' => e = .returned (.tuple #[.int .u8 0, .string ⟨#[]⟩, .int .i64 0]) ∧ w = w' := by
 unfold maxLen at hs
 have hby : s[1].toNat < 256 := s[1].toNat_lt
 have hd : decide ((s.size : Int) < 2) = false := decide_eq_false (by omega)
 go_enter Tryz.func37, Tryz.ntmps37
 go_wp2
 go_ret3
 exact ⟨rfl, rfl⟩
end Go.Proofs.YtpbaobmegomfpabGreatDoor
namespace Go.Proofs.YtpbaobmegomfpabGreatDoor
open Go
section
variable {P : Program} {ops : Array Oper} {Q : Exit → Go.Act → World → Prop} {md : Region.Mode} {S : World → Prop} {z : Nat}
theorem wpAnyZ_oneG {i : Nat} {o : Oper} {fuel : Nat} {listed : Array Bool} {a : Go.Act} {w : World} (ho : ops[i]? = some o) (hg : Region.wanted o (yielded ops a.tmps) = true) (hr : Region.ready md ops listed = [i])
  (h : ∀ K' : Go.Act → World → Prop, Shut (∀ a w, S w → wpAnyZ P md ops Q S z fuel (listed.setIfInBounds i true) a w → K' a w) → Oper.wp P o a w K' Q) : wpAnyZ P md ops Q S z (fuel + 1) listed a w := by
 refine ⟨fun h0 => (by rw [hr] at h0; cases h0), fun j hj => ?_⟩
 rw [hr] at hj
 obtain rfl := List.mem_singleton.1 hj
 refine wpOp_step ho fun K' hK => ?_
 rw [if_pos hg]
 exact h K' (fun a w hS hW => hK a w ⟨fun _ => hS, hW⟩)
theorem waits_spec {md : Region.Mode} {ops : Array Oper} {z i : Nat} (hz : waitsFor md ops z i = true) : ∃ oz, ops[z]? = some oz ∧ ∃ e ∈ oz.after, Region.binds md e = true ∧ e.on = i := by
 unfold waitsFor at hz
 cases ho : ops[z]? with
 | none => rw [ho] at hz; cases hz
 | some oz =>
  rw [ho] at hz
  simp only [Array.any_eq_true'] at hz
  obtain ⟨x, hx, hb⟩ := hz
  simp only [Bool.and_eq_true, beq_iff_eq] at hb
  exact ⟨oz, rfl, x, hx, hb.1, hb.2⟩
theorem not_ready {md : Region.Mode} {ops : Array Oper} {listed : Array Bool} {z i : Nat} (hz : waitsFor md ops z i = true) (hi : listed.getD i true = false) : z ∉ Region.ready md ops listed := fun hm => by
 obtain ⟨oz, ho, e, he, hb, hon⟩ := waits_spec hz
 obtain ⟨_, o', ho', hall⟩ := mem_ready.1 hm
 rw [ho] at ho'
 injection ho' with ho'
 subst ho'
 have h1 := hall e he hb
 rw [hon] at h1
 rcases Nat.lt_or_ge i listed.size with h' | h'
 ·simp [h'] at hi h1; rw [hi] at h1; cases h1
 ·simp [Array.getElem?_eq_none h'] at h1
theorem wpAnyZ_first2 {i : Nat} {C : List Nat} {oi : Oper} {v : Value} (hi : ops[i]? = some oi) (hsel : ∀ (j : Nat) (o : Oper) cs b, ops[j]? = some o → o.op ≠ .select cs b) (hC : ∀ c ∈ C, waitsFor md ops c i = true ∨ ∃ d ∈ C, waitsFor md ops c d = true) (hzC : ∃ d ∈ C, waitsFor md ops z d = true) (hiz : i ≠ z)
  (hQ : ∀ c a w, Q (.panic c) (a.put oi.dst v) w → Q (.panic c) a w) :
  ∀ (fuel : Nat) (listed : Array Bool) (a : Go.Act) (w : World),
   (∀ j oj, ops[j]? = some oj → j ≠ i → listed.getD j true = false → (∀ e ∈ oj.after, Region.binds md e = true → e.on ≠ i) → oi.apart ops oj = true) →
   (∀ c ∈ C, listed.getD c true = false) → i ∈ Region.ready md ops listed → YieldsIf P ops S oi v a → S w →
   wpAnyZ P md ops Q S z fuel (listed.setIfInBounds i true) (a.put oi.dst v) w → wpAnyZ P md ops Q S z (fuel + 1) listed a w := by
 intro fuel
 induction fuel with
 | zero =>
  intro listed a w _ _ hr hy hS H
  refine ⟨fun h => (by rw [h] at hr; cases hr), fun j hj => ?_⟩
  by_cases hji : j = i
  ·subst hji; exact hy.wpOp hi hS ⟨fun _ => hS, H⟩
  ·have := ready_mono hj hji
   rw [H.1] at this
   cases this
 | succ fuel ih =>
  intro listed a w hfree hkl hr hy hS H
  refine ⟨fun h => (by rw [h] at hr; cases hr), fun j hj => ?_⟩
  by_cases hji : j = i
  ·subst hji; exact hy.wpOp hi hS ⟨fun _ => hS, H⟩
  ·have h1 := H.2 j (ready_mono hj hji)
   obtain ⟨hjun, oj, hoj, hall⟩ := mem_ready.1 hj
   have hiun := (mem_ready.1 hr).1
   have hnot : ∀ e ∈ oj.after, Region.binds md e = true → e.on ≠ i := fun e he hb heq => by
    have h1 := hall e he hb
    rw [heq] at h1
    rcases Nat.lt_or_ge i listed.size with h' | h'
    ·simp [h'] at hiun h1; rw [hiun] at h1; cases h1
    ·simp [Array.getElem?_eq_none h'] at h1
   have hjz : j ≠ z := fun e => by obtain ⟨d, hd, hw⟩ := hzC; exact not_ready hw (hkl d hd) (e ▸ hj)
   have hjC : j ∉ C := fun hm => by
    rcases hC j hm with hw | ⟨d, hd, hw⟩
    ·exact not_ready hw hiun hj
    ·exact not_ready hw (hkl d hd) hj
   have h2 := wpOp_putIf hoj (hfree j oj hoj hji hjun hnot) (fun cs b => hsel i oi cs b hi) (fun cs b => hsel j oj cs b hoj) hQ hy h1
   have hfree' : ∀ k ok, ops[k]? = some ok → k ≠ i → (listed.setIfInBounds j true).getD k true = false →
     (∀ e ∈ ok.after, Region.binds md e = true → e.on ≠ i) → oi.apart ops ok = true := fun k ok hk hki hun hno => by
    refine hfree k ok hk hki ?_ hno
    by_cases hjk : j = k
    ·subst hjk; exact hjun
    ·rw [getD_set_ne true hjk] at hun; exact hun
   have hkl' : ∀ c ∈ C, (listed.setIfInBounds j true).getD c true = false := fun c hc => by
    have hne : j ≠ c := fun e => by subst e; exact hjC hc
    rw [getD_set_ne true hne]; exact hkl c hc
   refine wpOp_mono (fun a' w' h3 => ⟨h3.2.1, ih (listed.setIfInBounds j true) a' w' hfree' hkl' (ready_mono hr (Ne.symm hji)) h3.1 (h3.2.1 hjz) ?_⟩) h2
   rw [Array.setIfInBounds_comm _ _ hji]
   exact h3.2.2
theorem wpAnyZ_take2 {i : Nat} (C : List Nat) {oi : Oper} {v : Value} {fuel : Nat} {listed : Array Bool} {a : Go.Act} {w : World} (hi : ops[i]? = some oi)
  (hs : Region.noSelect ops = true) (hf : Region.free md ops listed i = true) (hr : (Region.ready md ops listed).contains i = true)
  (hz : ((C.all fun c => waitsFor md ops c i || C.any fun d => waitsFor md ops c d) && (C.any fun d => waitsFor md ops z d) && (C.all fun c => !(listed.getD c true)) && i != z) = true)
  (hQ : ∀ c a w, Q (.panic c) (a.put oi.dst v) w → Q (.panic c) a w) (hy : YieldsIf P ops S oi v a) (hS : S w)
  (h : wpAnyZ P md ops Q S z fuel (listed.setIfInBounds i true) (a.put oi.dst v) w) : wpAnyZ P md ops Q S z (fuel + 1) listed a w := by
 simp only [Bool.and_eq_true, bne_iff_ne, Bool.not_eq_true', List.all_eq_true, List.any_eq_true, Bool.or_eq_true] at hz
 exact wpAnyZ_first2 hi (Region.noSelect_spec hs) hz.1.1.1 hz.1.1.2 hz.2 hQ fuel listed a w (Region.free_spec hi hf) hz.1.2 (by simpa using hr) hy hS h
end
section
variable {P : Program} {ops : Array Oper} {Q : Exit → Go.Act → World → Prop} {md : Region.Mode} {S : World → Prop} {z : Nat}
theorem tkY (i : Nat) (C : List Nat) {oi : Oper} (v : Value) {fuel : Nat} {listed : Array Bool} {a : Go.Act} {w : World} (hi : ops[i]? = some oi) (hv : ∀ w, S w → (execOp a.eval oi).run P w = .ok (.value v) w) (hS : S w)
    (h : wpAnyZ P md ops Q S z fuel (listed.setIfInBounds i true) (a.put oi.dst v) w) (hw : Region.wanted oi (yielded ops a.tmps) = true := by rfl)
    (hs : Region.noSelect ops = true := by kernel_rfl) (hf : Region.free md ops listed i = true := by kernel_rfl) (hr : (Region.ready md ops listed).contains i = true := by kernel_rfl)
    (hz : ((C.all fun c => waitsFor md ops c i || C.any fun d => waitsFor md ops c d) && (C.any fun d => waitsFor md ops z d) && (C.all fun c => !(listed.getD c true)) && i != z) = true := by kernel_rfl)
    (hQ : ∀ c a w, Q (.panic c) (a.put oi.dst v) w → Q (.panic c) a w := by exact fun _ _ _ h => h) : wpAnyZ P md ops Q S z (fuel + 1) listed a w :=
  wpAnyZ_take2 C hi hs hf hr hz hQ (Or.inl ⟨hw, hv⟩) hS h
end
end Go.Proofs.YtpbaobmegomfpabGreatDoor
namespace Go.Proofs.YtpbaobmegomfpabGreatDoor
open Go.RowKit
theorem u8_row : (Tryz.prog.info? 5).map (fun i => (i.zero, i.size, i.bytes)) = some (some (.int .u8 0), 1, 1) := by kernel_rfl
theorem items_sent (m : Mach PE) {c : Nat} (hc : c < 6) : items m (9 + c) = (m.sent.getD c ⟨#[]⟩).data.toList.map (fun b => [.int .u8 b.toNat]) := by
 unfold items
 rw [if_neg (by omega), if_neg (by omega), if_neg (by omega), if_pos (by omega), show 9 + c - 9 = c by omega]
theorem flat_ones (l : List UInt8) : (l.map (fun b => [Value.int .u8 (b.toNat : Int)])).flatten = l.map (fun b => Value.int .u8 (b.toNat : Int)) := by
 induction l with
 | nil => rfl
 | cons a l ih => simp [ih]
theorem tellT_size (k st : Nat) (x : ByteArray) (hx : x.size ≤ 60) (hk : k ≤ 4) (hst : st ≤ 2) : (tellT k st x).size ≤ 120 := by
 unfold tellT
 have h1 := lead_size k hk
 have h2 : (markAt st).size ≤ 1 := by
  obtain rfl | rfl | rfl : st = 0 ∨ st = 1 ∨ st = 2 := by omega
  all_goals decide
 rw [ByteArray.size_append, ByteArray.size_append]
 omega
def KeepF (G : Nat → Option Nat) (w w' : World) : Prop := w.heap.size ≤ w'.heap.size ∧ ∀ b, b < w.heap.size → Free G b → w'.heap[b]? = w.heap[b]?
theorem KeepF.refl (G : Nat → Option Nat) (w : World) : KeepF G w w := ⟨nL _, fun _ _ _ => rfl⟩
theorem KeepF.trans {G : Nat → Option Nat} {w w' w2 : World} (h : KeepF G w w') (h2 : KeepF G w' w2) : KeepF G w w2 := ⟨Nat.le_trans h.1 h2.1, fun b hb hf => (h2.2 b (Nat.lt_of_lt_of_le hb h.1) hf).trans (h.2 b hb hf)⟩
theorem KeepF.below {G : Nat → Option Nat} {w w' : World} (h : Below w.heap.size w w') : KeepF G w w' := ⟨h.size, fun b hb _ => h.block b hb⟩
theorem KeepF.grown {G : Nat → Option Nat} {w w' w2 : World} {k : Nat} (h : KeepF G w w') (hg : w'.grownBy w2 (G k)) : KeepF G w w2 := ⟨Nat.le_trans h.1 hg.size, fun b hb hf => (hg.block b (Nat.lt_of_lt_of_le hb h.1) (fun e => hf k e.symm)).trans (h.2 b hb hf)⟩
theorem KeepF.set {G : Nat → Option Nat} {w w' : World} {k R : Nat} (h : KeepF G w w') (hR : G k = some R) (j : Nat) (v : Value) : KeepF G w (w'.setCell ⟨R, j, none⟩ v) := ⟨by rw [size_set]; exact h.1, fun b hb hf => (set_off _ R j v b (fun e => hf k (by rw [hR, e]))).trans (h.2 b hb hf)⟩
section
variable {base P : Nat} {f : Nat → Value} {G : Nat → Option Nat} {mode : Int} {m : Mach PE}
theorem PMem.told {w w1 : World} {b off cap n : Nat} {a : Ans} {st : Int} (h : PMem 0 w base P f G mode m) (hs6 : m.sent.length = 6) {c : Nat} (hc : c < 6) (hn : n = (m.sent.getD c ⟨#[]⟩).size) (hg : w.grownBy w1 (G (9 + c)))
  (hs : Sl w1 5 1 (.slice (some ⟨b, off, none⟩) (n + (ansM a st).size) cap) (some b) (n + (ansM a st).size) (((m.sent.getD c ⟨#[]⟩).data.toList.map (fun b => Value.int .u8 (b.toNat : Int))) ++ Lib.strCells (ansM a st))) (hb : G (9 + c) = some b ∨ (w.heap.size ≤ b ∧ b < w1.heap.size)) :
  PMem 0 (w1.setCell ⟨P, 41 + c, none⟩ (.slice (some ⟨b, off, none⟩) (n + (ansM a st).size) cap)) base P (upd f (41 + c) (.slice (some ⟨b, off, none⟩) (n + (ansM a st).size) cap)) (upd G (9 + c) (some b)) mode (m.tell c a st) := by
 have e1 : slC (9 + c) = 41 + c := by unfold slC; rw [if_neg (by omega), if_neg (by omega), if_neg (by omega), if_pos (by omega)]; omega
 have e2 : slT (9 + c) = 5 := by unfold slT; rw [if_neg (by omega), if_neg (by omega), if_neg (by omega), if_pos (by omega)]
 have e3 : slZ (9 + c) = 1 := by unfold slZ; rw [if_neg (by omega), if_neg (by omega), if_pos (by omega)]
 have e4 : (m.tell c a st).sent.getD c ⟨#[]⟩ = m.sent.getD c ⟨#[]⟩ ++ ansM a st := by
  unfold Mach.tell; simp only; rw [getD_set, if_pos ⟨rfl, by omega⟩]
 have hbase : base ≤ w.heap.size := Nat.le_trans (h.lo 0 P h.p0).1 (Nat.le_of_lt (h.lo 0 P h.p0).2)
 have := h.grow (k := 9 + c) (m' := m.tell c a st) (n' := n + (ansM a st).size) (v := .slice (some ⟨b, off, none⟩) (n + (ansM a st).size) cap) (xs := ((m.sent.getD c ⟨#[]⟩).data.toList.map (fun b => Value.int .u8 (b.toNat : Int))) ++ Lib.strCells (ansM a st)) (b := b) (by omega) (by omega) hbase hg (by rw [e2, e3]; exact hs) hb
  (by rw [items_sent _ hc, e4, hn, List.length_map, Array.length_toList]; show _ = (m.sent.getD c ⟨#[]⟩ ++ ansM a st).size; rw [ByteArray.size_append]) (by rw [items_sent _ hc, flat_ones, e4]; simp [Lib.strCells]) (fun k hk => ?_) rfl (fun _ => rfl) (fun _ => rfl)
 ·rw [e1] at this; exact this
 ·unfold items
  by_cases h1 : k = 1
  ·rw [if_pos h1, if_pos h1]; rfl
  ·rw [if_neg h1, if_neg h1]
   by_cases h2 : k < 8
   ·rw [if_pos h2, if_pos h2]; rfl
   ·rw [if_neg h2, if_neg h2]
    by_cases h3 : k = 8
    ·rw [if_pos h3, if_pos h3]; rfl
    ·rw [if_neg h3, if_neg h3]
     by_cases h4 : k < 15
     ·rw [if_pos h4, if_pos h4]
      have : (m.tell c a st).sent.getD (k - 9) ⟨#[]⟩ = m.sent.getD (k - 9) ⟨#[]⟩ := by
       unfold Mach.tell; simp only; rw [getD_set, if_neg (by omega)]
      rw [this]
     ·rw [if_neg h4, if_neg h4]; rfl
set_option maxHeartbeats 4000000 in
theorem send_any (w : World) (h : PMem 0 w base P f G mode m) (hT : Tabs w base) (hs6 : m.sent.length = 6) (c : Nat) (hc : c < 6) (a : Ans) (st : Int) (ha : AnsOk a) (hst : 0 ≤ st ∧ st ≤ 2) (hsm : (m.sent.getD c ⟨#[]⟩).size ≤ 100000000) :
  Calls Tryz.prog 119 #[ptr P 0, .int .i64 c, .agg #[.int .i64 a.kind, .string a.text, .int .i64 st]] w fun e w' => ∃ f' G', e = .returned (.tuple #[]) ∧ PMem 0 w' base P f' G' mode (m.tell c a st) ∧ Below base w w' ∧ KeepF G w w' := by
 have hP := h.row.lt
 have hbP := (h.lo 0 P h.p0).1
 have n0 := (Below.refl w.heap.size w).alloc (nL _) (.cells #[.int .i64 a.kind, .string a.text, .int .i64 st] 46)
 obtain ⟨k, hk⟩ : ∃ k : Nat, a.kind = k := ⟨a.kind.toNat, by have := ha.lo; omega⟩
 obtain ⟨s, hs⟩ : ∃ s : Nat, st = s := ⟨st.toNat, by omega⟩
 have hk4 : 1 ≤ k ∧ k ≤ 4 := by have := ha.lo; have := ha.hi; omega
 have HTE := hD (fun wc (hL : Leads wc) => tell_ok k s a.text wc hL (by omega) (by
  have := ha.ne; rw [hk] at this
  intro hh
  rcases hh with hh | hh
  ·rw [hh] at this; cases this
  ·have := ha.len; omega))
 have hts := tellT_size k s a.text ha.len (by omega) (by omega)
 have HPA := hD (fun wc => pack_any 82 (tellT k s a.text) wc hts)
 have hmsg : msg 82 (tellT k s a.text) = ansM a st := by unfold ansM; rw [hk, hs]; simp
 rw [hmsg] at HPA
 have hms : 0 < (ansM a st).size ∧ (ansM a st).size ≤ 122 := by rw [← hmsg, msg_size]; omega
 generalize tellT k s a.text = tt at *
 have HT := hD hT
 have HH := hD h
 obtain ⟨i0, hi, hz0, hz1, hz2⟩ := info_parts u8_row
 have HI := hD (And.intro hi (And.intro hz0 (And.intro hz1 hz2)))
 have HB0 := hD (n0.mono (Nat.le_trans hbP (Nat.le_of_lt hP)))
 have HN0 := hD n0
 subst hs
 rw [hk]
 have HMS := hD hms
 have HPA2 : Hid (∀ (wc : World), Calls Tryz.prog 36 #[.int .u8 82, .string tt] wc fun e w' => e = .returned (.tuple #[.string (ansM a s), .int .i64 0]) ∧ Below wc.heap.size wc w') := hD fun wc => HPA.out wc
 have hcI : (c : Int) < 6 := by omega
 rw [hk] at HN0 HB0
 have HSM := hD hsm
 have HS6 := hD hs6
 have X1 := RowTo.whole w #[.int .i64 (k : Int), .string a.text, .int .i64 (s : Int)] 46
 obtain ⟨x0, x1, x2⟩ := cells3 X1
 have hPw : P < (w.alloc (.cells #[.int .i64 (k : Int), .string a.text, .int .i64 (s : Int)] 46)).heap.size := by simp; omega
 obtain ⟨mm, HMM⟩ : ∃ x, Hid (ansM a s = x) := ⟨_, hD rfl⟩
 rw [HMM.out] at HPA2 HMS
 clear h hT ha hst hsm hs6 n0 hts hmsg hms HPA hi hz0 hz1 hz2 hk hk4 X1
 unfold ptr
 go_enter Tryz.func119, Tryz.ntmps119
 go_wp2_with fail
 refine (HTE.out _ (HT.out.le.below HN0.out)).mono ?_
 rintro e w1 ⟨rfl, hb1⟩
 have HB1 := hD (bel_add' HN0.out hb1 HN0.out.size)
 clear hb1 x0 x1 x2 HTE
 go_wp2_with fail
 refine (HPA2.out _).mono ?_
 rintro e w2 ⟨rfl, hb2⟩
 have HB2 := hD (bel_add' HB1.out hb2 HB1.out.size)
 clear hb2 HPA2 HB1
 go_wp2_with fail
 have M2 := HH.out.below HB2.out
 have s0 := M2.row.cell (j := 41 + c) (by omega)
 have e1 : slC (9 + c) = 41 + c := by unfold slC; rw [if_neg (by omega), if_neg (by omega), if_neg (by omega), if_pos (by omega)]; omega
 have e2 : slT (9 + c) = 5 := by unfold slT; rw [if_neg (by omega), if_neg (by omega), if_neg (by omega), if_pos (by omega)]
 have e3 : slZ (9 + c) = 1 := by unfold slZ; rw [if_neg (by omega), if_neg (by omega), if_pos (by omega)]
 have hsl := M2.sl (9 + c) (by omega) (by omega) (by omega)
 rw [e1, e2, e3, items_sent _ hc, flat_ones, List.length_map] at hsl
 have hsl2 : Sl w2.drew 5 1 (f (41 + c)) (G (9 + c)) (m.sent.getD c ⟨#[]⟩).size ((m.sent.getD c ⟨#[]⟩).data.toList.map (fun b => Value.int .u8 (b.toNat : Int))) := hsl.keep (fun _ _ => rfl)
 obtain ⟨b, off, cap, w3, hrun, hs3, hg3, hb3⟩ := hsl2.appendStr (P := Tryz.prog) 80 9 80 i0 Tryz.underlying80 Tryz.underlying9 HI.out.1 HI.out.2.1 HI.out.2.2.1 HI.out.2.2.2 mm HMS.out.1 (by have := HSM.out; have := HMS.out; unfold maxLen; omega) (by have := HSM.out; have := HMS.out; omega)
 have hPg : some P ≠ G (9 + c) := fun e => M2.noP (by omega) e.symm
 have hP3 : w3.heap[P]? = w2.heap[P]? := hg3.block P M2.row.lt hPg
 have p0 : w3.cell? ⟨P, 41 + c, none⟩ = some (f (41 + c)) := (World.cell?_of_block (a := ⟨P, 41 + c, none⟩) hP3).trans s0
 have fz : w3.frozen? ⟨P, 41 + c, none⟩ = false := (World.frozen?_of_block (a := ⟨P, 41 + c, none⟩) hP3).trans (M2.row.frozen _)
 have M2d : PMem 0 w2.drew base P f G mode m := M2.below (Below.refl _ _).drew
 have hFin : PMem 0 (w3.setCell ⟨P, 41 + c, none⟩ (.slice (some ⟨b, off, none⟩) ((m.sent.getD c ⟨#[]⟩).size + mm.size) cap)) base P (upd f (41 + c) (.slice (some ⟨b, off, none⟩) ((m.sent.getD c ⟨#[]⟩).size + mm.size) cap)) (upd G (9 + c) (some b)) mode (m.tell c a s) := by
  have := HMM.out
  subst this
  exact M2d.told HS6.out hc rfl hg3 hs3 hb3
 have hBF : Below base w (w3.setCell ⟨P, 41 + c, none⟩ (.slice (some ⟨b, off, none⟩) ((m.sent.getD c ⟨#[]⟩).size + mm.size) cap)) := by
  have hb0 : base ≤ w.heap.size := by omega
  have h2 : Below base w w2.drew := (HB2.out.mono hb0).drew
  exact (h2.grown hg3 (Nat.le_trans hb0 h2.size) (fun x hx => (M2d.lo _ _ hx).1)).setCell hbP _
 have hKF : KeepF G w (w3.setCell ⟨P, 41 + c, none⟩ (.slice (some ⟨b, off, none⟩) ((m.sent.getD c ⟨#[]⟩).size + mm.size) cap)) := ((KeepF.below HB2.out.drew).grown hg3).set (k := 0) M2.p0 _ _
 have HF := hD (And.intro hFin (And.intro hBF hKF))
 have hPl := M2.row.lt
 generalize f (41 + c) = fv at *
 generalize (m.sent.getD c ⟨#[]⟩).size = nn at *
 clear M2 M2d hsl hsl2 hs3 hg3 hb3 hFin hBF hKF e1 e2 e3 hPg hP3 HH HT HI HB0 HN0 HB2 HMS HSM HS6 HMM
 refine wp_region_z 13 (fun wx => wx.cell? ⟨P, 41 + c, none⟩ = some fv) (by kernel_rfl) (s0) (fun hS => ?_)
 refine tkZ 0 ?v0 rfl ?y0 hS ?r0
 case y0 => (intro w hSw; (try dsimp only at hSw); (try simp only [gTA, gCZ, gCS]); go_simp; try with_reducible rfl)
 (try simp only [gTA, gCZ, gCS, Act.put, sTA, sCZ, sCS])
 refine tkZ 1 ?v1 rfl ?y1 hS ?r1
 case y1 => (intro w hSw; (try dsimp only at hSw); (try simp only [gTA, gCZ, gCS]); go_simp; try with_reducible rfl)
 (try simp only [gTA, gCZ, gCS, Act.put, sTA, sCZ, sCS])
 refine tkZ 2 ?v2 rfl ?y2 hS ?r2
 case y2 => (intro w hSw; (try dsimp only at hSw); (try simp only [gTA, gCZ, gCS]); go_simp; try with_reducible rfl)
 (try simp only [gTA, gCZ, gCS, Act.put, sTA, sCZ, sCS])
 refine tkZ 3 ?v3 rfl ?y3 hS ?r3
 case y3 => (intro w hSw; (try dsimp only at hSw); (try simp only [gTA, gCZ, gCS]); go_simp; try with_reducible rfl)
 (try simp only [gTA, gCZ, gCS, Act.put, sTA, sCZ, sCS])
 refine tkZ 4 ?v4 rfl ?y4 hS ?r4
 case y4 => (intro w hSw; (try dsimp only at hSw); (try simp only [gTA, gCZ, gCS]); go_simp; try with_reducible rfl)
 (try simp only [gTA, gCZ, gCS, Act.put, sTA, sCZ, sCS])
 refine tkZ 5 ?v5 rfl ?y5 hS ?r5
 case y5 => (intro w hSw; (try dsimp only at hSw); (try simp only [gTA, gCZ, gCS]); go_simp; try with_reducible rfl)
 (try simp only [gTA, gCZ, gCS, Act.put, sTA, sCZ, sCS])
 refine tkZ 6 ?v6 rfl ?y6 hS ?r6
 case y6 => (intro w hSw; (try dsimp only at hSw); (try simp only [gTA, gCZ, gCS]); go_simp; try with_reducible rfl)
 (try simp only [gTA, gCZ, gCS, Act.put, sTA, sCZ, sCS])
 refine tkZ 7 ?v7 rfl ?y7 hS ?r7
 case y7 => (intro w hSw; (try dsimp only at hSw); (try simp only [gTA, gCZ, gCS]); go_simp; try with_reducible rfl)
 (try simp only [gTA, gCZ, gCS, Act.put, sTA, sCZ, sCS])
 refine tkZ 8 ?v8 rfl ?y8 hS ?r8
 case y8 => (intro w hSw; (try dsimp only at hSw); (try simp only [gTA, gCZ, gCS]); go_simp; try with_reducible rfl)
 (try simp only [gTA, gCZ, gCS, Act.put, sTA, sCZ, sCS])
 refine tkY 10 [11, 12] ?v10 rfl ?y10 hS ?r10
 case y10 => (intro w hSw; (try dsimp only at hSw); (try simp only [gTA, gCZ, gCS]); go_simp; try with_reducible rfl)
 (try simp only [gTA, gCZ, gCS, Act.put, sTA, sCZ, sCS])
 refine tkY 11 [12] ?v11 rfl ?y11 hS ?r11
 case y11 => (intro w hSw; (try dsimp only at hSw); (try simp only [gTA, gCZ, gCS]); go_simp; try with_reducible rfl)
 (try simp only [gTA, gCZ, gCS, Act.put, sTA, sCZ, sCS])
 refine wpAnyZ_one (i := 9) rfl rfl (by kernel_rfl) (fun K hK => ?_)
 (try simp only [gTA, gCZ, gCS])
 refine Lib.wp_append_run _ _ _ _ _ rfl _ _ rfl rfl _ _ hrun ?_
 have hS2 := p0
 refine hK.out _ _ hS2 ?_
 clear hK K hS
 have hS := hS2
 clear hS2
 (try simp only [gTA, gCZ, gCS, Act.put, sTA, sCZ, sCS])
 refine tkZ 12 ?v12 rfl ?y12 hS ?r12
 case y12 => (intro w hSw; (try dsimp only at hSw); (try simp only [gTA, gCZ, gCS]); go_simp; try with_reducible rfl)
 (try simp only [gTA, gCZ, gCS, Act.put, sTA, sCZ, sCS])
 refine wpAnyZ_last rfl rfl (by kernel_rfl) (by kernel_rfl) (fun K hK => ?_)
 (try simp only [gTA, gCZ, gCS])
 go_simp
 refine hK.out _ _ ?_
 clear hK K
 (try simp only [gTA, gCZ, gCS, Act.put, sTA, sCZ, sCS])
 go_wp2
 go_end0
 exact ⟨_, _, rfl, HF.out.1, HF.out.2.1, HF.out.2.2⟩
end
end Go.Proofs.YtpbaobmegomfpabGreatDoor
namespace Go.Proofs.YtpbaobmegomfpabGreatDoor
open Go.RowKit
theorem Sl.set1 {w : World} {t n : Nat} {v : Value} {g : Option Nat} {xs : List Value} (h : Sl w t 1 v g n xs) {j : Nat} (hj : j < n) (u : Value) : ∃ b off cap, g = some b ∧ v = .slice (some ⟨b, off, none⟩) n cap ∧ n ≤ cap ∧ (∃ x, w.cell? ⟨b, off + j, none⟩ = some x) ∧ w.frozen? ⟨b, off + j, none⟩ = false ∧ Sl (w.setCell ⟨b, off + j, none⟩ u) t 1 v g n (xs.set j u) := by
 have hxl : xs.length = n := by simpa using h.len
 rcases h.form with ⟨_, _, h0⟩ | ⟨b, off, cap, tot, h1, h2, h3, hr, h4, h5⟩
 ·omega
 ·have h4' := h4
  have h4 := h4.resolve_left (by omega)
  have hin : off + j < tot := by omega
  refine ⟨b, off, cap, h1, h2, h3, ⟨_, h5 j (by omega)⟩, hr.frozen _, by simpa using h.len, .inr ⟨b, off, cap, tot, h1, h2, h3, hr.hit _, h4', fun i hi => ?_⟩⟩
  rw [List.length_set] at hi
  by_cases e : i = j
  ·subst e; rw [cell_put hr hin, List.getElem_set_self]
  ·rw [cell_off _ (by omega), h5 i hi, List.getElem_set_ne (Ne.symm e)]
section
variable {base P : Nat} {f : Nat → Value} {G : Nat → Option Nat} {mode : Int} {m : Mach PE}
theorem items_busy (m : Mach PE) : items m 1 = m.busy.map (fun b => [.bool b]) := by unfold items; rw [if_pos rfl]
theorem flat_bools (l : List Bool) : (l.map (fun b => [Value.bool b])).flatten = l.map Value.bool := by
 induction l with
 | nil => rfl
 | cons a l ih => simp [ih]
theorem PMem.busySl {w : World} (h : PMem 0 w base P f G mode m) : Sl w 4 1 (f 3) (G 1) m.busy.length (m.busy.map Value.bool) := by
 have := h.sl 1 (by omega) (by omega) (by omega)
 rw [items_busy, flat_bools, List.length_map] at this
 exact this
theorem PMem.setBusy {w : World} (h : PMem 0 w base P f G mode m) {j : Nat} (hj : j < m.busy.length) (x : Bool) : ∃ b off cap, G 1 = some b ∧ f 3 = .slice (some ⟨b, off, none⟩) m.busy.length cap ∧ m.busy.length ≤ cap ∧ (∃ y, w.cell? ⟨b, off + j, none⟩ = some y) ∧ w.frozen? ⟨b, off + j, none⟩ = false ∧
  PMem 0 (w.setCell ⟨b, off + j, none⟩ (.bool x)) base P f G mode { m with busy := m.busy.set j x } := by
 obtain ⟨b, off, cap, h1, h2, h3, h4, h5, h6⟩ := h.busySl.set1 hj (.bool x)
 refine ⟨b, off, cap, h1, h2, h3, h4, h5, ?_⟩
 have hk := (h.but 1).keep (w' := w.setCell ⟨b, off + j, none⟩ (.bool x)) (by omega) (by rw [size_set]; exact nL _) (fun b' _ hne => Below.heap_setCell _ _ _ _ (fun e => hne (by rw [h1, e])))
 refine hk.fill ?_ (fun k hk' => ?_) rfl (fun _ => rfl) (fun _ => rfl)
 ·rw [items_busy, flat_bools, List.length_map, List.length_set, List.map_set]
  exact h6
 ·unfold items
  rw [if_neg hk', if_neg hk']; rfl
set_option maxHeartbeats 4000000 in
theorem release_any (w : World) (h : PMem 0 w base P f G mode m) (hm : MOk mode m) (hp : m.e.w.ss.length = m.busy.length) (hk6 : m.e.kept.length = 6) {c s : Nat} (hc : c < 6) (hs : (m.get c).srv = some s) :
  Calls Tryz.prog 76 #[ptr P 0, ptr P (4 + c * 6)] w fun e w' => ∃ f', e = .returned (.tuple #[]) ∧ PMem 0 w' base P f' G mode (m.release poolO c s) ∧ Below base w w' := by
 have hP := h.row.lt
 have hbP := (h.lo 0 P h.p0).1
 have hb := (List.getElem?_eq_some_iff.1 (hm.srv c s hs)).1
 have hlt : s < m.e.w.ss.length := by omega
 obtain ⟨q, hq, hqs⟩ := h.srv c hc
 obtain rfl := hqs s hs
 obtain ⟨gB, oB, cB, hf2, hFB, hgB, hcs⟩ := h.wld.at (by omega)
 obtain ⟨v1, v2, v3, v4, sB, i1, i2, i3, i4⟩ := hcs s hlt
 have a2 := h.row.cell (j := 2) (by omega)
 rw [hf2] at a2
 have a3 := h.row.cell (j := 4 + c * 6 + 3) (by omega)
 rw [hq] at a3
 obtain ⟨q0, q1, q2, q3, q4, l1, l2, l3, l4⟩ := sB
 obtain ⟨E1, e1, rfl, hE1⟩ := l1.form
 obtain ⟨E2, e2, rfl, hE2⟩ := l2.form
 obtain ⟨E3, e3, rfl, hE3⟩ := l3.form
 obtain ⟨E4, e4, rfl, hE4⟩ := l4.form
 have hbd := h.wld.wld.sess.bytes
 have hsI : (s : Int) < (m.e.w.ss.length : Int) := by omega
 have HH := hD h
 have HL1 := hD (And.intro l1 i1)
 have HL2 := hD (And.intro l2 i2)
 have hat := at_lt hlt
 have HK6 := hD hk6
 have HN6 := hD hm.n6
 have HHB := hD hb
 have HSR := hD hs
 obtain ⟨S, HS⟩ : ∃ S, Hid (m.e.w.ss[s] = S) := ⟨_, hD rfl⟩
 rw [HS.out] at q0 q1 q2 q3 q4 HL1 HL2 hat
 have HAT := hD hat
 clear hat
 clear h hm hp hk6 hs hq hqs hf2 hFB hcs l1 l2 l3 l4 i1 i2 i3 i4 hE1 hE2 hE3 hE4 hb HS hlt
 generalize m.e.w.ss.length = n2 at *
 unfold ptr
 go_enter Tryz.func76, Tryz.ntmps76
 go_wp2_with fail
 refine wp_region_z 12 (fun wx => wx.cell? ⟨P, 2, none⟩ = some (.slice (some ⟨gB, oB, none⟩) n2 cB) ∧ wx.cell? ⟨P, 4 + c * 6 + 3, none⟩ = some (.int .i64 s) ∧ wx.cell? ⟨gB, oB + s * 5, none⟩ = some (.int .i64 S.st) ∧ wx.cell? ⟨gB, oB + s * 5 + 1, none⟩ = some (.slice E1 S.set.length e1) ∧ wx.cell? ⟨gB, oB + s * 5 + 2, none⟩ = some (.slice E2 S.prep.length e2) ∧ wx.cell? ⟨gB, oB + s * 5 + 3, none⟩ = some (.slice E3 S.sav.length e3) ∧ wx.cell? ⟨gB, oB + s * 5 + 4, none⟩ = some (.slice E4 S.wr.length e4)) (by kernel_rfl) (show w.drew.cell? ⟨P, 2, none⟩ = some (.slice (some ⟨gB, oB, none⟩) n2 cB) ∧ w.drew.cell? ⟨P, 4 + c * 6 + 3, none⟩ = some (.int .i64 s) ∧ w.drew.cell? ⟨gB, oB + s * 5, none⟩ = some (.int .i64 S.st) ∧ w.drew.cell? ⟨gB, oB + s * 5 + 1, none⟩ = some (.slice E1 S.set.length e1) ∧ w.drew.cell? ⟨gB, oB + s * 5 + 2, none⟩ = some (.slice E2 S.prep.length e2) ∧ w.drew.cell? ⟨gB, oB + s * 5 + 3, none⟩ = some (.slice E3 S.sav.length e3) ∧ w.drew.cell? ⟨gB, oB + s * 5 + 4, none⟩ = some (.slice E4 S.wr.length e4) from ⟨a2, a3, q0, q1, q2, q3, q4⟩) (fun hS => ?_)
 refine tkZ 0 ?v0 rfl ?y0 hS ?r0
 case y0 => (intro w hSw; (try dsimp only at hSw); (try simp only [gTA, gCZ, gCS]); go_simp; try with_reducible rfl)
 (try simp only [gTA, gCZ, gCS, Act.put, sTA, sCZ, sCS])
 refine tkZ 1 ?v1 rfl ?y1 hS ?r1
 case y1 => (intro w hSw; (try dsimp only at hSw); (try simp only [gTA, gCZ, gCS]); go_simp; try with_reducible rfl)
 (try simp only [gTA, gCZ, gCS, Act.put, sTA, sCZ, sCS])
 refine tkZ 2 ?v2 rfl ?y2 hS ?r2
 case y2 => (intro w hSw; (try dsimp only at hSw); (try simp only [gTA, gCZ, gCS]); go_simp; try with_reducible rfl)
 (try simp only [gTA, gCZ, gCS, Act.put, sTA, sCZ, sCS])
 refine tkZ 3 ?v3 rfl ?y3 hS ?r3
 case y3 => (intro w hSw; (try dsimp only at hSw); (try simp only [gTA, gCZ, gCS]); go_simp; try with_reducible rfl)
 (try simp only [gTA, gCZ, gCS, Act.put, sTA, sCZ, sCS])
 refine tkZ 4 ?v4 rfl ?y4 hS ?r4
 case y4 => (intro w hSw; (try dsimp only at hSw); (try simp only [gTA, gCZ, gCS]); go_simp; try with_reducible rfl)
 (try simp only [gTA, gCZ, gCS, Act.put, sTA, sCZ, sCS])
 refine tkZ 5 ?v5 rfl ?y5 hS ?r5
 case y5 => (intro w hSw; (try dsimp only at hSw); (try simp only [gTA, gCZ, gCS]); go_simp; try with_reducible rfl)
 (try simp only [gTA, gCZ, gCS, Act.put, sTA, sCZ, sCS])
 refine tkZ 6 ?v6 rfl ?y6 hS ?r6
 case y6 => (intro w hSw; (try dsimp only at hSw); (try simp only [gTA, gCZ, gCS]); go_simp; try with_reducible rfl)
 (try simp only [gTA, gCZ, gCS, Act.put, sTA, sCZ, sCS])
 refine tkZ 7 ?v7 rfl ?y7 hS ?r7
 case y7 => (intro w hSw; (try dsimp only at hSw); (try simp only [gTA, gCZ, gCS]); go_simp; try with_reducible rfl)
 (try simp only [gTA, gCZ, gCS, Act.put, sTA, sCZ, sCS])
 refine tkZ 8 ?v8 rfl ?y8 hS ?r8
 case y8 => (intro w hSw; (try dsimp only at hSw); (try simp only [gTA, gCZ, gCS]); go_simp; try with_reducible rfl)
 (try simp only [gTA, gCZ, gCS, Act.put, sTA, sCZ, sCS])
 refine tkZ 9 ?v9 rfl ?y9 hS ?r9
 case y9 => (intro w hSw; (try dsimp only at hSw); (try simp only [gTA, gCZ, gCS]); go_simp; try with_reducible rfl)
 (try simp only [gTA, gCZ, gCS, Act.put, sTA, sCZ, sCS])
 refine tkZ 10 ?v10 rfl ?y10 hS ?r10
 case y10 => (intro w hSw; (try dsimp only at hSw); (try simp only [gTA, gCZ, gCS]); go_simp; try with_reducible rfl)
 (try simp only [gTA, gCZ, gCS, Act.put, sTA, sCZ, sCS])
 refine wpAnyZ_one (i := 11) rfl rfl (by kernel_rfl) (fun K hK => ?_)
 (try simp only [gTA, gCZ, gCS])
 go_simp
 have hS2 := (show (w.drew.alloc (.cells #[.int .i64 0, .slice none 0 0, .slice none 0 0, .slice none 0 0, .slice none 0 0] 115)).cell? ⟨P, 2, none⟩ = some (.slice (some ⟨gB, oB, none⟩) n2 cB) ∧ (w.drew.alloc (.cells #[.int .i64 0, .slice none 0 0, .slice none 0 0, .slice none 0 0, .slice none 0 0] 115)).cell? ⟨P, 4 + c * 6 + 3, none⟩ = some (.int .i64 s) ∧ (w.drew.alloc (.cells #[.int .i64 0, .slice none 0 0, .slice none 0 0, .slice none 0 0, .slice none 0 0] 115)).cell? ⟨gB, oB + s * 5, none⟩ = some (.int .i64 S.st) ∧ (w.drew.alloc (.cells #[.int .i64 0, .slice none 0 0, .slice none 0 0, .slice none 0 0, .slice none 0 0] 115)).cell? ⟨gB, oB + s * 5 + 1, none⟩ = some (.slice E1 S.set.length e1) ∧ (w.drew.alloc (.cells #[.int .i64 0, .slice none 0 0, .slice none 0 0, .slice none 0 0, .slice none 0 0] 115)).cell? ⟨gB, oB + s * 5 + 2, none⟩ = some (.slice E2 S.prep.length e2) ∧ (w.drew.alloc (.cells #[.int .i64 0, .slice none 0 0, .slice none 0 0, .slice none 0 0, .slice none 0 0] 115)).cell? ⟨gB, oB + s * 5 + 3, none⟩ = some (.slice E3 S.sav.length e3) ∧ (w.drew.alloc (.cells #[.int .i64 0, .slice none 0 0, .slice none 0 0, .slice none 0 0, .slice none 0 0] 115)).cell? ⟨gB, oB + s * 5 + 4, none⟩ = some (.slice E4 S.wr.length e4) from ⟨((((Below.refl w.heap.size w).drew).alloc (nL _) (.cells #[.int .i64 0, .slice none 0 0, .slice none 0 0, .slice none 0 0, .slice none 0 0] 115)).cell (p := ⟨P, 2, none⟩) hP).trans a2, ((((Below.refl w.heap.size w).drew).alloc (nL _) (.cells #[.int .i64 0, .slice none 0 0, .slice none 0 0, .slice none 0 0, .slice none 0 0] 115)).cell (p := ⟨P, 4 + c * 6 + 3, none⟩) hP).trans a3, ((((Below.refl w.heap.size w).drew).alloc (nL _) (.cells #[.int .i64 0, .slice none 0 0, .slice none 0 0, .slice none 0 0, .slice none 0 0] 115)).cell (p := ⟨gB, oB + s * 5, none⟩) hgB).trans q0, ((((Below.refl w.heap.size w).drew).alloc (nL _) (.cells #[.int .i64 0, .slice none 0 0, .slice none 0 0, .slice none 0 0, .slice none 0 0] 115)).cell (p := ⟨gB, oB + s * 5 + 1, none⟩) hgB).trans q1, ((((Below.refl w.heap.size w).drew).alloc (nL _) (.cells #[.int .i64 0, .slice none 0 0, .slice none 0 0, .slice none 0 0, .slice none 0 0] 115)).cell (p := ⟨gB, oB + s * 5 + 2, none⟩) hgB).trans q2, ((((Below.refl w.heap.size w).drew).alloc (nL _) (.cells #[.int .i64 0, .slice none 0 0, .slice none 0 0, .slice none 0 0, .slice none 0 0] 115)).cell (p := ⟨gB, oB + s * 5 + 3, none⟩) hgB).trans q3, ((((Below.refl w.heap.size w).drew).alloc (nL _) (.cells #[.int .i64 0, .slice none 0 0, .slice none 0 0, .slice none 0 0, .slice none 0 0] 115)).cell (p := ⟨gB, oB + s * 5 + 4, none⟩) hgB).trans q4⟩)
 refine hK.out _ _ hS2 ?_
 clear hK K hS
 have hS := hS2
 clear hS2
 (try simp only [gTA, gCZ, gCS, Act.put, sTA, sCZ, sCS])
 refine wpAnyZ_last rfl rfl (by kernel_rfl) (by kernel_rfl) (fun K hK => ?_)
 (try simp only [gTA, gCZ, gCS])
 go_simp
 refine hK.out _ _ ?_
 clear hK K
 (try simp only [gTA, gCZ, gCS, Act.put, sTA, sCZ, sCS])
 go_wp2_with fail
 have nA : Below w.heap.size w (w.alloc (.cells #[.int .i64 S.st, .slice E1 S.set.length e1, .slice E2 S.prep.length e2, .slice E3 S.sav.length e3, .slice E4 S.wr.length e4] 115)).drew := (((Below.refl w.heap.size w).alloc (nL _) (.cells #[.int .i64 S.st, .slice E1 S.set.length e1, .slice E2 S.prep.length e2, .slice E3 S.sav.length e3, .slice E4 S.wr.length e4] 115))).drew
 have X := RowTo.whole w #[.int .i64 S.st, .slice E1 S.set.length e1, .slice E2 S.prep.length e2, .slice E3 S.sav.length e3, .slice E4 S.wr.length e4] 115
 have t1 : (w.alloc (.cells #[.int .i64 S.st, .slice E1 S.set.length e1, .slice E2 S.prep.length e2, .slice E3 S.sav.length e3, .slice E4 S.wr.length e4] 115)).drew.cell? ⟨w.heap.size, 1, none⟩ = some (.slice E1 S.set.length e1) := X.cell (j := 1) (by simp)
 have t2 : (w.alloc (.cells #[.int .i64 S.st, .slice E1 S.set.length e1, .slice E2 S.prep.length e2, .slice E3 S.sav.length e3, .slice E4 S.wr.length e4] 115)).drew.cell? ⟨w.heap.size, 2, none⟩ = some (.slice E2 S.prep.length e2) := X.cell (j := 2) (by simp)
 have hM1 := HH.out.below nA
 have hl1 := lst_free HL1.out nA.size (fun b _ hb => nA.block b hb)
 have hl2 := lst_free HL2.out nA.size (fun b _ hb => nA.block b hb)
 have hz1 : (w.alloc (.cells #[.int .i64 S.st, .slice E1 S.set.length e1, .slice E2 S.prep.length e2, .slice E3 S.sav.length e3, .slice E4 S.wr.length e4] 115)).drew.heap.size = w.heap.size + 1 := by simp [World.drew]
 have HBA := hD (nA.mono (Nat.le_trans hbP (Nat.le_of_lt hP)))
 generalize (w.alloc (.cells #[.int .i64 S.st, .slice E1 S.set.length e1, .slice E2 S.prep.length e2, .slice E3 S.sav.length e3, .slice E4 S.wr.length e4] 115)).drew = W1 at *
 have HL1b := hD hl1
 have HL2b := hD hl2
 have HM1 := hD hM1
 have p4 := hM1.row.cell (j := 4 + c * 6 + 4) (by omega)
 have p5 := hM1.row.cell (j := 4 + c * 6 + 5) (by omega)
 have z4 := hM1.row.frozen (4 + c * 6 + 4)
 have z5 := hM1.row.frozen (4 + c * 6 + 5)
 have hPX : P ≠ w.heap.size := by omega
 clear hM1 hl1 hl2 X nA a2 a3 q0 q1 q2 q3 q4 hS HL1 HL2 HH
 refine wp_region_z 11 (fun wx => wx.cell? ⟨w.heap.size, 1, none⟩ = some (.slice E1 S.set.length e1) ∧ wx.cell? ⟨w.heap.size, 2, none⟩ = some (.slice E2 S.prep.length e2)) (by kernel_rfl) (show W1.drew.cell? ⟨w.heap.size, 1, none⟩ = some (.slice E1 S.set.length e1) ∧ W1.drew.cell? ⟨w.heap.size, 2, none⟩ = some (.slice E2 S.prep.length e2) from ⟨t1, t2⟩) (fun hS => ?_)
 refine tkZ 0 ?vb0 rfl ?yb0 hS ?rb0
 case yb0 => (intro w hSw; (try dsimp only at hSw); (try simp only [gTA, gCZ, gCS]); go_simp; try with_reducible rfl)
 (try simp only [gTA, gCZ, gCS, Act.put, sTA, sCZ, sCS])
 refine tkZ 1 ?vb1 rfl ?yb1 hS ?rb1
 case yb1 => (intro w hSw; (try dsimp only at hSw); (try simp only [gTA, gCZ, gCS]); go_simp; try with_reducible rfl)
 (try simp only [gTA, gCZ, gCS, Act.put, sTA, sCZ, sCS])
 refine tkZ 2 ?vb2 rfl ?yb2 hS ?rb2
 case yb2 => (intro w hSw; (try dsimp only at hSw); (try simp only [gTA, gCZ, gCS]); go_simp; try with_reducible rfl)
 (try simp only [gTA, gCZ, gCS, Act.put, sTA, sCZ, sCS])
 refine tkZ 3 ?vb3 rfl ?yb3 hS ?rb3
 case yb3 => (intro w hSw; (try dsimp only at hSw); (try simp only [gTA, gCZ, gCS]); go_simp; try with_reducible rfl)
 (try simp only [gTA, gCZ, gCS, Act.put, sTA, sCZ, sCS])
 refine tkZ 4 ?vb4 rfl ?yb4 hS ?rb4
 case yb4 => (intro w hSw; (try dsimp only at hSw); (try simp only [gTA, gCZ, gCS]); go_simp; try with_reducible rfl)
 (try simp only [gTA, gCZ, gCS, Act.put, sTA, sCZ, sCS])
 refine tkZ 5 ?vb5 rfl ?yb5 hS ?rb5
 case yb5 => (intro w hSw; (try dsimp only at hSw); (try simp only [gTA, gCZ, gCS]); go_simp; try with_reducible rfl)
 (try simp only [gTA, gCZ, gCS, Act.put, sTA, sCZ, sCS])
 refine tkZ 6 ?vb6 rfl ?yb6 hS ?rb6
 case yb6 => (intro w hSw; (try dsimp only at hSw); (try simp only [gTA, gCZ, gCS]); go_simp; try with_reducible rfl)
 (try simp only [gTA, gCZ, gCS, Act.put, sTA, sCZ, sCS])
 refine tkZ 7 ?vb7 rfl ?yb7 hS ?rb7
 case yb7 => (intro w hSw; (try dsimp only at hSw); (try simp only [gTA, gCZ, gCS]); go_simp; try with_reducible rfl)
 (try simp only [gTA, gCZ, gCS, Act.put, sTA, sCZ, sCS])
 refine wpAnyZ_one (i := 8) rfl rfl (by kernel_rfl) (fun K hK => ?_)
 (try simp only [gTA, gCZ, gCS])
 go_simp
 have hS2 := (show (W1.drew.setCell ⟨P, 4 + c * 6 + 4, none⟩ (.slice E1 S.set.length e1)).cell? ⟨w.heap.size, 1, none⟩ = some (.slice E1 S.set.length e1) ∧ (W1.drew.setCell ⟨P, 4 + c * 6 + 4, none⟩ (.slice E1 S.set.length e1)).cell? ⟨w.heap.size, 2, none⟩ = some (.slice E2 S.prep.length e2) from ⟨cell_sty (p := ⟨P, 4 + c * 6 + 4, none⟩) hPX t1, cell_sty (p := ⟨P, 4 + c * 6 + 4, none⟩) hPX t2⟩)
 refine hK.out _ _ hS2 ?_
 clear hK K hS
 have hS := hS2
 clear hS2
 (try simp only [gTA, gCZ, gCS, Act.put, sTA, sCZ, sCS])
 refine tkY 9 [10] ?vb9 rfl ?yb9 hS ?rb9
 case yb9 => (intro w hSw; (try dsimp only at hSw); (try simp only [gTA, gCZ, gCS]); go_simp; try with_reducible rfl)
 (try simp only [gTA, gCZ, gCS, Act.put, sTA, sCZ, sCS])
 refine tkZ 10 ?vb10 rfl ?yb10 hS ?rb10
 case yb10 => (intro w hSw; (try dsimp only at hSw); (try simp only [gTA, gCZ, gCS]); go_simp; try with_reducible rfl)
 (try simp only [gTA, gCZ, gCS, Act.put, sTA, sCZ, sCS])
 refine wpAnyZ_last rfl rfl (by kernel_rfl) (by kernel_rfl) (fun K hK => ?_)
 (try simp only [gTA, gCZ, gCS])
 go_simp
 refine hK.out _ _ ?_
 clear hK K
 (try simp only [gTA, gCZ, gCS, Act.put, sTA, sCZ, sCS])
 go_wp2_with fail
 have hM2 := (HM1.out.setLists hc HK6.out HL1b.out HL2b.out).below (Below.refl _ _).drew
 have hB2 := ((HBA.out.setCell (p := ⟨P, 4 + c * 6 + 4, none⟩) hbP (.slice E1 S.set.length e1)).setCell (p := ⟨P, 4 + c * 6 + 5, none⟩) hbP (.slice E2 S.prep.length e2)).drew
 obtain ⟨W2, HW2⟩ : ∃ u, Hid (((W1.setCell ⟨P, 4 + c * 6 + 4, none⟩ (.slice E1 S.set.length e1)).setCell ⟨P, 4 + c * 6 + 5, none⟩ (.slice E2 S.prep.length e2)).drew = u) := ⟨_, hD rfl⟩
 rw [HW2.out] at hM2 hB2 ⊢
 clear HW2 hS t1 t2 p4 p5 z4 z5 HM1 HL1b HL2b HBA
 obtain ⟨bb, ob, cp, g1, f3, hle, ⟨y, hy⟩, hfz, hM3⟩ := hM2.setBusy (j := s) HHB.out false
 obtain ⟨q, hq, hqs⟩ := hM2.srv c hc
 obtain rfl := hqs s HSR.out
 have b3 := hM2.row.cell (j := 3) (by omega)
 rw [f3] at b3
 have bs := hM2.row.cell (j := 4 + c * 6 + 3) (by omega)
 rw [hq] at bs
 have hbb := hM2.lo 1 bb g1
 have hPl := hM2.row.lt
 have hPb : P ≠ bb := fun e => hM2.noP (k := 1) (by omega) (by rw [g1, e])
 have c2 := hM3.row.cell (j := 4 + c * 6 + 2) (by omega)
 have z2 := hM3.row.frozen (4 + c * 6 + 2)
 have hM4 := (hM3.setNone hc HN6.out).below (Below.refl _ _).drew
 have hB4 := ((hB2.setCell (p := ⟨bb, ob + s, none⟩) hbb.1 (.bool false)).setCell (p := ⟨P, 4 + c * 6 + 2, none⟩) hbP (.bool false)).drew
 have hEq : m.release poolO c s = Mach.set { ({ m with e := ⟨m.e.w, m.e.kept.set c (S.set, S.prep)⟩ } : Mach PE) with busy := ({ m with e := ⟨m.e.w, m.e.kept.set c (S.set, S.prep)⟩ } : Mach PE).busy.set s false } c { Mach.get { ({ m with e := ⟨m.e.w, m.e.kept.set c (S.set, S.prep)⟩ } : Mach PE) with busy := ({ m with e := ⟨m.e.w, m.e.kept.set c (S.set, S.prep)⟩ } : Mach PE).busy.set s false } c with srv := none } := by
  show _ = _
  unfold Mach.release poolO PE.free Mach.set
  simp only [HAT.out]
  rfl
 rw [← hEq] at hM4
 have HF := hD (And.intro hM4 hB4)
 have hsB : s < m.busy.length := HHB.out
 have hsBI : (s : Int) < (m.busy.length : Int) := by omega
 generalize m.busy.length = nB at *
 clear hM2 hM3 hM4 hB4 hB2 hEq hq hqs f3 g1 HHB HSR HN6 HK6 HAT
 refine wp_region_z 9 (fun wx => wx.cell? ⟨P, 3, none⟩ = some (.slice (some ⟨bb, ob, none⟩) nB cp) ∧ wx.cell? ⟨P, 4 + c * 6 + 3, none⟩ = some (.int .i64 s)) (by kernel_rfl) (show W2.drew.cell? ⟨P, 3, none⟩ = some (.slice (some ⟨bb, ob, none⟩) nB cp) ∧ W2.drew.cell? ⟨P, 4 + c * 6 + 3, none⟩ = some (.int .i64 s) from ⟨b3, bs⟩) (fun hS => ?_)
 refine tkZ 0 ?vc0 rfl ?yc0 hS ?rc0
 case yc0 => (intro w hSw; (try dsimp only at hSw); (try simp only [gTA, gCZ, gCS]); go_simp; try with_reducible rfl)
 (try simp only [gTA, gCZ, gCS, Act.put, sTA, sCZ, sCS])
 refine tkZ 1 ?vc1 rfl ?yc1 hS ?rc1
 case yc1 => (intro w hSw; (try dsimp only at hSw); (try simp only [gTA, gCZ, gCS]); go_simp; try with_reducible rfl)
 (try simp only [gTA, gCZ, gCS, Act.put, sTA, sCZ, sCS])
 refine tkZ 2 ?vc2 rfl ?yc2 hS ?rc2
 case yc2 => (intro w hSw; (try dsimp only at hSw); (try simp only [gTA, gCZ, gCS]); go_simp; try with_reducible rfl)
 (try simp only [gTA, gCZ, gCS, Act.put, sTA, sCZ, sCS])
 refine tkZ 3 ?vc3 rfl ?yc3 hS ?rc3
 case yc3 => (intro w hSw; (try dsimp only at hSw); (try simp only [gTA, gCZ, gCS]); go_simp; try with_reducible rfl)
 (try simp only [gTA, gCZ, gCS, Act.put, sTA, sCZ, sCS])
 refine tkZ 4 ?vc4 rfl ?yc4 hS ?rc4
 case yc4 => (intro w hSw; (try dsimp only at hSw); (try simp only [gTA, gCZ, gCS]); go_simp; try with_reducible rfl)
 (try simp only [gTA, gCZ, gCS, Act.put, sTA, sCZ, sCS])
 refine tkZ 5 ?vc5 rfl ?yc5 hS ?rc5
 case yc5 => (intro w hSw; (try dsimp only at hSw); (try simp only [gTA, gCZ, gCS]); go_simp; try with_reducible rfl)
 (try simp only [gTA, gCZ, gCS, Act.put, sTA, sCZ, sCS])
 refine tkZ 6 ?vc6 rfl ?yc6 hS ?rc6
 case yc6 => (intro w hSw; (try dsimp only at hSw); (try simp only [gTA, gCZ, gCS]); go_simp; try with_reducible rfl)
 (try simp only [gTA, gCZ, gCS, Act.put, sTA, sCZ, sCS])
 refine tkZ 7 ?vc7 rfl ?yc7 hS ?rc7
 case yc7 => (intro w hSw; (try dsimp only at hSw); (try simp only [gTA, gCZ, gCS]); go_simp; try with_reducible rfl)
 (try simp only [gTA, gCZ, gCS, Act.put, sTA, sCZ, sCS])
 refine tkZ 8 ?vc8 rfl ?yc8 hS ?rc8
 case yc8 => (intro w hSw; (try dsimp only at hSw); (try simp only [gTA, gCZ, gCS]); go_simp; try with_reducible rfl)
 (try simp only [gTA, gCZ, gCS, Act.put, sTA, sCZ, sCS])
 refine wpAnyZ_last rfl rfl (by kernel_rfl) (by kernel_rfl) (fun K hK => ?_)
 (try simp only [gTA, gCZ, gCS])
 go_simp
 refine hK.out _ _ ?_
 clear hK K
 (try simp only [gTA, gCZ, gCS, Act.put, sTA, sCZ, sCS])
 go_wp2
 go_end0
 exact ⟨_, rfl, HF.out.1, HF.out.2⟩
end
end Go.Proofs.YtpbaobmegomfpabGreatDoor
namespace Go.Proofs.YtpbaobmegomfpabGreatDoor
open Go.RowKit
def clS (x : Cl) : Nat := x.wait.length + x.bytes.size
def tot (l : List Cl) : Nat := (l.map clS).sum
theorem tot_set : ∀ {l : List Cl} {c : Nat} {x : Cl} (h : c < l.length), tot (l.set c x) + clS l[c] = tot l + clS x
 | a :: l, 0, x, h => by simp [tot]; omega
 | a :: l, c + 1, x, h => by
  have := tot_set (l := l) (c := c) (x := x) (by simpa using h)
  simp only [tot, sCS, List.map_cons, List.sum_cons, gCS] at this ⊢
  omega
theorem lead4 : ∀ k, k ≤ 4 → (leadAt k).size ≤ 4 := by decide
theorem ansM_size {a : Ans} {st : Int} (ha : AnsOk a) (hst : 0 ≤ st ∧ st ≤ 2) : (ansM a st).size ≤ 122 := by
 unfold ansM
 rw [msg_size]
 unfold tellT
 have h1 := lead4 a.kind.toNat (by have := ha.hi; omega)
 have h2 : (markAt st.toNat).size ≤ 1 := by
  obtain h | h | h : st.toNat = 0 ∨ st.toNat = 1 ∨ st.toNat = 2 := by omega
  all_goals (rw [h]; decide)
 have h3 := ha.len
 rw [ByteArray.size_append, ByteArray.size_append]
 omega
theorem ref_ans {mode : Int} {r : Req} (h : refB mode r = true) : AnsOk ⟨4, refuse mode r⟩ := by
 unfold refB at h
 have h := of_decide_eq_true h
 unfold refuse
 by_cases h1 : r.k = 0
 ·rw [if_pos h1]; exact no_ok (t := tUnder) (by decide) (by decide)
 ·rw [if_neg h1, if_pos (h.resolve_left h1)]; exact no_ok (t := tMode) (by decide) (by decide)
section
variable {E : Type} {m m' : Mach E} {N : Nat}
structure Bnd (m : Mach E) (N : Nat) : Prop where
 sent : ∀ c, (m.sent.getD c ⟨#[]⟩).size + 122 * clS (m.get c) ≤ 122 * N
 deeds : m.deeds.length + tot m.cl ≤ N
theorem Bnd.same (h : Bnd m N) (h1 : ∀ d, clS (m'.get d) ≤ clS (m.get d)) (h2 : tot m'.cl ≤ tot m.cl) (h3 : m'.sent = m.sent) (h4 : m'.deeds = m.deeds) : Bnd m' N :=
 ⟨fun c => by rw [h3]; have := h.sent c; have := h1 c; omega, by rw [h4]; have := h.deeds; omega⟩
theorem Bnd.turn (h : Bnd m N) {c : Nat} (hc : c < m.cl.length) {x : Cl} (hx : clS x ≤ clS (m.get c)) (h1 : m'.cl = m.cl.set c x) (h3 : m'.sent = m.sent) (h4 : m'.deeds = m.deeds) : Bnd m' N := by
 refine h.same (fun d => ?_) ?_ h3 h4
 ·have : m'.get d = if c = d then x else m.get d := by unfold Mach.get; rw [h1]; exact get_cl hc
  rw [this]
  split
  ·rename_i e; rw [← e]; exact hx
  ·exact nL _
 ·have := tot_set (x := x) hc
  rw [← get_lt hc] at this
  rw [h1]; omega
theorem Bnd.more (h : Bnd m N) {c n : Nat} (hc : c < m.cl.length) {x : Cl} (hx : clS x ≤ clS (m.get c) + n) (h1 : m'.cl = m.cl.set c x) (h3 : m'.sent = m.sent) (h4 : m'.deeds = m.deeds) : Bnd m' (N + n) := by
 have ht := tot_set (x := x) hc
 rw [← get_lt hc] at ht
 refine ⟨fun d => ?_, by rw [h1, h4]; have := h.deeds; omega⟩
 have : m'.get d = if c = d then x else m.get d := by unfold Mach.get; rw [h1]; exact get_cl hc
 rw [this, h3]
 have := h.sent d
 split
 ·rename_i e; rw [← e] at this ⊢; omega
 ·omega
theorem Bnd.did (h : Bnd m N) {c : Nat} (hs : c < m.sent.length) (hc : c < m.cl.length) {x : Cl} (hx : clS x + 1 ≤ clS (m.get c)) {a : Ans} {st : Int} (ha : AnsOk a) (hst : 0 ≤ st ∧ st ≤ 2) (h1 : m'.cl = m.cl.set c x) (h2 : m'.sent = m.sent.set c (m.sent.getD c ⟨#[]⟩ ++ ansM a st)) (h3 : m'.deeds.length ≤ m.deeds.length + 1) : Bnd m' N := by
 have ht := tot_set (x := x) hc
 rw [← get_lt hc] at ht
 refine ⟨fun d => ?_, by rw [h1]; have := h.deeds; omega⟩
 have e1 : m'.get d = if c = d then x else m.get d := by unfold Mach.get; rw [h1]; exact get_cl hc
 rw [e1, h2, getD_set]
 have := h.sent d
 by_cases e : c = d
 ·rw [if_pos ⟨e, hs⟩, if_pos e, ByteArray.size_append]
  subst e
  have := ansM_size ha hst
  omega
 ·rw [if_neg (fun hh => e hh.1), if_neg e]; exact this
end
section
variable {m : Mach PE} {mode : Int} {N : Nat}
structure Inv (mode : Int) (m : Mach PE) (N : Nat) : Prop where
 ok : MOk mode m
 al : ∃ H, Alike m H
 bnd : Bnd m N
theorem Inv.w (h : Inv mode m N) : WorldOk m.e.w := by obtain ⟨H, a⟩ := h.al; exact a.okP
theorem Inv.plen (h : Inv mode m N) : m.e.w.ss.length = m.busy.length := by obtain ⟨H, a⟩ := h.al; exact a.plen
theorem Inv.klen (h : Inv mode m N) : m.e.kept.length = 6 := by obtain ⟨H, a⟩ := h.al; exact a.klen
theorem Inv.srvlt (h : Inv mode m N) {c s : Nat} (hs : (m.get c).srv = some s) : s < m.e.w.ss.length := by obtain ⟨H, a⟩ := h.al; exact (a.srvlt h.ok hs).1
theorem Inv.state (h : Inv mode m N) {c : Nat} (hc : c < 6) : 0 ≤ m.e.state (m.get c).srv ∧ m.e.state (m.get c).srv ≤ 2 := by
 unfold PE.state
 cases hs : (m.get c).srv with
 | none => exact ⟨Int.le_refl _, by show (0 : Int) ≤ 2; decide⟩
 | some s => have := sess_at h.w (h.srvlt hs); exact ⟨this.lo, this.hi⟩
theorem Inv.req (h : Inv mode m N) {c : Nat} {r : Req} {l : List Req} (hw : (m.get c).wait = r :: l) (hf : refB mode r = false) : r.ok := by
 rcases h.ok.fine c r (by rw [hw]; exact List.mem_cons_self) with e | e
 ·rw [e] at hf; exact absurd hf (by simp [refB, Req.none_])
 ·exact e
theorem Inv.sent (h : Inv mode m N) (hN : N ≤ 300000) (c : Nat) : (m.sent.getD c ⟨#[]⟩).size ≤ 100000000 := by have := h.bnd.sent c; omega
theorem Inv.deeds (h : Inv mode m N) (hN : N ≤ 300000) : m.deeds.length ≤ 300000 := by have := h.bnd.deeds; omega
theorem Inv.waits (h : Inv mode m N) (hN : N ≤ 300000) (c : Nat) : (m.get c).wait.length ≤ 300000 ∧ (m.get c).bytes.size ≤ 300000 := by have := h.bnd.sent c; unfold clS at this; omega
theorem Inv.proc (h : Inv mode m N) {c : Nat} (hc : c < 6) (hr : readyB mode (m.get c) = true) : Inv mode (m.proc poolO mode c) N := by
 obtain ⟨H, al⟩ := h.al
 refine ⟨(h.ok.proc (o := poolO) hc hr).1, ⟨_, al.proc h.ok hc hr⟩, ?_⟩
 have hc' : c < m.cl.length := by rw [h.ok.n6]; exact hc
 have hs6 : c < m.sent.length := by rw [h.ok.s6]; exact hc
 obtain ⟨r, l, hw, hs⟩ := ready_wait hr
 have hx : clS { m.get c with wait := l } + 1 ≤ clS (m.get c) := by unfold clS; rw [hw]; simp; omega
 unfold Mach.proc
 simp only [hw]
 by_cases hf : refB mode r = true
 ·rw [if_pos hf]
  exact h.bnd.did hs6 hc' hx (ref_ans hf) (h.state hc) rfl rfl (by show m.deeds.length ≤ _; omega)
 ·rw [if_neg hf]
  have hsv : (m.get c).srv.isSome = true := by rw [Bool.or_eq_true] at hs; exact hs.resolve_right hf
  obtain ⟨s, hs⟩ := Option.isSome_iff_exists.1 hsv
  rw [show (m.get c).srv.getD 0 = s by rw [hs]; rfl]
  have hlt := h.srvlt hs
  have hok := h.req hw (by simpa using hf)
  have ha : AnsOk (poolO.exec m.e c s r).2.1 := doM_ans h.w hlt _ _ _
  have hst : 0 ≤ (poolO.exec m.e c s r).2.2 ∧ (poolO.exec m.e c s r).2.2 ≤ 2 := by
   have := doR_ok h.w hlt hok
   have := sess_at this.1 (i := s) (by rw [this.2]; exact hlt)
   exact ⟨this.lo, this.hi⟩
  have b2 : Bnd (Mach.tell { m.set c { m.get c with wait := l } with e := (poolO.exec m.e c s r).1, deeds := m.deeds ++ [⟨c, r, (poolO.exec m.e c s r).2.1, (poolO.exec m.e c s r).2.2⟩] } c (poolO.exec m.e c s r).2.1 (poolO.exec m.e c s r).2.2) N :=
   h.bnd.did hs6 hc' hx ha hst rfl rfl (by show (m.deeds ++ [_]).length ≤ _; simp)
  split
  ·exact b2.turn (c := c) (x := { Mach.get _ c with srv := none }) (by show c < (m.cl.set c _).length; simpa using hc') (nL _) rfl rfl rfl
  ·exact b2
theorem Inv.enq (h : Inv mode m N) (hr : m.firstR mode = none) : Inv mode m.enq N := by
 obtain ⟨H, al⟩ := h.al
 exact ⟨h.ok.enq hr, ⟨_, al.enq⟩, h.bnd.same (fun d => nL _) (nL _) rfl rfl⟩
theorem Inv.assign (h : Inv mode m N) : Inv mode (m.assign poolO).2 N := by
 obtain ⟨H, al⟩ := h.al
 cases ht : (m.assign poolO).1 with
 | false => rw [assign_no ht]; exact h
 | true =>
  refine ⟨(h.ok.assign ht).1, ⟨_, (al.assign h.ok).2⟩, ?_⟩
  unfold Mach.assign
  split
  ·exact h.bnd
  ·rename_i c l hl
   split
   ·have hc := (h.ok.line c (by rw [hl]; exact List.mem_cons_self)).1
    exact h.bnd.turn (c := c) (x := { m.get c with srv := some (m.busy.idxOf false) }) (by rw [h.ok.n6]; exact hc) (nL _) rfl rfl rfl
   ·exact h.bnd
theorem Inv.step (h : Inv mode m N) : Inv mode (m.step poolO mode).2 N := by
 unfold Mach.step
 cases hf : m.firstR mode with
 | some c => obtain ⟨hc, hr⟩ := first_some hf; exact h.proc hc hr
 | none => exact (h.enq hf).assign
theorem Inv.all (h : Inv mode m N) : Inv mode (m.all poolO mode) N :=
 all_ind (fun m => Inv mode m N) (fun _ r => Inv mode r N) (fun m _ h _ => ⟨h.step, fun r hr => hr⟩) (fun m _ h _ => h.step) _ m (nL _) h.ok h
theorem Inv.leave (h : Inv mode m N) {c : Nat} (hc : c < 6) : Inv mode (m.leave poolO c) N := by
 obtain ⟨H, al⟩ := h.al
 exact ⟨h.ok.leave hc, ⟨_, al.leave h.ok hc⟩, h.bnd.turn (c := c) (x := Cl.new) (by rw [h.ok.n6]; exact hc) (by show 0 ≤ _; omega) rfl rfl rfl⟩
theorem Inv.bytes (h : Inv mode m N) {c : Nat} (hc : c < 6) (d : ByteArray) : Inv mode (m.set c { m.get c with bytes := (m.get c).bytes ++ d }) (N + d.size) := by
 obtain ⟨H, al⟩ := h.al
 have hc' : c < m.cl.length := by rw [h.ok.n6]; exact hc
 exact ⟨h.ok.bytes hc _, ⟨_, al.turn hc' rfl⟩, h.bnd.more hc' (by unfold clS; simp [ByteArray.size_append]; omega) rfl rfl rfl⟩
theorem pull_j {b : ByteArray} {k : UInt8} {t : ByteArray} {j : Nat} (h : pull b = some (k, t, j)) : 2 ≤ j ∧ j ≤ b.size := by
 unfold pull at h
 split at h
 ·split at h
  ·rename_i h1 h2
   injection h with h
   injection h with _ h
   injection h with _ h
   omega
  ·cases h
 ·cases h
theorem Inv.pull (h : Inv mode m N) {c : Nat} (hc : c < 6) {k : UInt8} {t : ByteArray} {j : Nat} (hp : Proofs.YtpbaobmegomfpabGreatDoor.pull (m.get c).bytes = some (k, t, j)) :
  Inv mode (m.set c { m.get c with bytes := (m.get c).bytes.extract j (m.get c).bytes.size, wait := (m.get c).wait ++ [reqOf k t] }) N := by
 obtain ⟨H, al⟩ := h.al
 have hc' : c < m.cl.length := by rw [h.ok.n6]; exact hc
 have hj := pull_j hp
 refine ⟨h.ok.turn hc (fine_app (fun q hq => h.ok.fine c q hq) (reqOf_fine k t)) rfl fun hl => ⟨by simp, ?_⟩, ⟨_, al.turn hc' rfl⟩, h.bnd.turn hc' (by unfold clS; simp; omega) rfl rfl rfl⟩
 obtain ⟨_, _, h3, h4⟩ := h.ok.line c hl
 exact ready_app h3 h4
theorem Inv.feed (h : Inv mode m N) {c : Nat} (hc : c < 6) (n : Nat) : Inv mode (m.feed poolO mode n c) N := by
 induction n generalizing m with
 | zero => exact h
 | succ n ih =>
  unfold Mach.feed
  cases hp : Proofs.YtpbaobmegomfpabGreatDoor.pull (m.get c).bytes with
  | none => exact h
  | some q =>
   obtain ⟨k, t, j⟩ := q
   simp only
   split
   ·exact h.all.leave hc
   ·exact ih (h.pull hc hp)
theorem actE_of {a : Act} (h : actE a = 0) : (a.kind = 1 ∨ a.kind = 2) ∧ 0 ≤ a.c ∧ a.c < 6 ∧ a.data.size ≤ 1000 := by
 unfold actE at h
 split at h
 ·cases h
 ·rename_i h1
  split at h
  ·cases h
  ·split at h
   ·cases h
   ·exact ⟨Classical.byContradiction h1, by omega, by omega, by omega⟩
theorem Inv.deliver (h : Inv mode m N) {c : Nat} (hc : c < 6) (d : ByteArray) : Inv mode (m.deliver poolO mode c d) (N + d.size) := (h.bytes hc d).feed hc _
theorem Inv.mono {M : Nat} (h : Inv mode m N) (hN : N ≤ M) : Inv mode m M := ⟨h.ok, h.al, fun c => by have := h.bnd.sent c; omega, by have := h.bnd.deeds; omega⟩
theorem Inv.act (h : Inv mode m N) {a : Act} (ha : actE a = 0) : Inv mode (m.act poolO mode a) (N + 1000) := by
 obtain ⟨h1, h2, h3, h4⟩ := actE_of ha
 have hc : a.c.toNat < 6 := by omega
 unfold Mach.act
 split
 ·exact (h.deliver hc a.data).all.mono (by omega)
 ·exact (h.leave hc).all.mono (by omega)
theorem Inv.run : ∀ {l : List Act} {m : Mach PE} {N : Nat}, Inv mode m N → actsE l = 0 → Inv mode (m.run poolO mode l) (N + 1000 * l.length)
 | [], m, N, h, _ => h.mono (by simp)
 | a :: l, m, N, h, hl => (Inv.run (h.act (actsE_cons hl).1) (actsE_cons hl).2).mono (by simp only [List.length_cons]; omega)
theorem Inv.start {n : Nat} (hn : n ≤ 8) : Inv mode (Mach.start (poolStart n) n) 0 := by
 refine ⟨start_ok _ _ _, ⟨_, start_alike hn⟩, fun c => ?_, by simp [Mach.start, tot, clS, Cl.new, ByteArray.size]⟩
 have h1 : (Mach.start (poolStart n) n).get c = Cl.new := by
  unfold Mach.get Mach.start
  simp only
  rw [List.getD_eq_getElem?_getD, List.getElem?_replicate]
  split <;> rfl
 have h2 : (Mach.start (poolStart n) n).sent.getD c ⟨#[]⟩ = ⟨#[]⟩ := by
  unfold Mach.start
  simp only
  rw [List.getD_eq_getElem?_getD, List.getElem?_replicate]
  split <;> rfl
 rw [h1, h2]; decide
theorem nodup_len : ∀ (n : Nat) (l : List Nat), l.Nodup → (∀ x ∈ l, x < n) → l.length ≤ n
 | 0, l, _, h => by
  cases l with
  | nil => exact nL _
  | cons a l => exact absurd (h a List.mem_cons_self) (by omega)
 | n + 1, l, hd, h => by
  by_cases hn : n ∈ l
  ·have h1 := nodup_len n (l.erase n) (hd.erase n) (fun x hx => by
    have := (hd.mem_erase_iff).1 hx
    have := h x this.2
    omega)
   rw [List.length_erase_of_mem hn] at h1
   omega
  ·have := nodup_len n l hd (fun x hx => by
    have h1 := h x hx
    have : x ≠ n := fun e => hn (e ▸ hx)
    omega)
   omega
theorem Inv.line (h : Inv mode m N) : m.line.length ≤ 6 := nodup_len 6 _ h.ok.nodup fun c hc => (h.ok.line c hc).1
end
end Go.Proofs.YtpbaobmegomfpabGreatDoor
namespace Go.Proofs.YtpbaobmegomfpabGreatDoor
open Go.RowKit
theorem doW_succ (W : Wd) (s : Nat) (k : Int) {l : PL} {j : Nat} (hj : j < l.length) : doW W s k (l.take (j + 1)) = (doR (doW W s k (l.take j)) s ⟨k, l[j].1, l[j].2⟩).1 := by
 unfold doW
 rw [List.take_succ_eq_append_getElem hj, List.foldl_append]
 rfl
section
variable {base P : Nat} {f : Nat → Value} {G : Nat → Option Nat} {mode : Int} {m : Mach PE}
set_option maxHeartbeats 1000000 in
theorem store_any (w : World) (h : PMem 0 w base P f G mode m) (hT : Tabs w base) (hok : WorldOk m.e.w) (s : Nat) (hs : s < m.e.w.ss.length) (k : Int) (v : Value) (l : PL) (hl : Lst w w.heap.size v l) (hin : InP (fun b => b ≠ P) v l) (hr : ∀ q ∈ l, checkE k q.1 q.2 = 0) :
  Calls Tryz.prog 139 #[ptr P 0, .int .i64 s, .int .i64 k, v] w fun e w' => (∃ f', e = .returned (.tuple #[]) ∧ PMem 0 w' base P f' G mode { m with e := ⟨doW m.e.w s k l, m.e.kept⟩ }) ∧ WorldOk (doW m.e.w s k l) ∧ (doW m.e.w s k l).ss.length = m.e.w.ss.length ∧ Below base w w' ∧ Only P w w' := by
 obtain ⟨A, c, rfl, hc⟩ := hl.form
 have hby := hl.bytes
 have hbP := (h.lo 0 P h.p0).1
 have hPl := h.row.lt
 have HL := hD (And.intro hl hin)
 have HT := hD hT
 have HR := hD hr
 have H0 := hD (And.intro h (And.intro hok hs))
 clear hl hin hT hr h hok
 unfold ptr
 go_enter Tryz.func139, Tryz.ntmps139
 go_wp2
 go_loopw [12] (fun i wr => ∃ j : Nat, j ≤ l.length ∧ i = .int .i64 j ∧ Hid ((∃ f', PMem 0 wr base P f' G mode { m with e := ⟨doW m.e.w s k (l.take j), m.e.kept⟩ }) ∧ WorldOk (doW m.e.w s k (l.take j)) ∧ (doW m.e.w s k (l.take j)).ss.length = m.e.w.ss.length ∧ Below base w wr ∧ Only P w wr)) (fun i _ => l.length - (intOf i).toNat)
 case atStart => exact ⟨0, by omega, rfl, ⟨f, H0.out.1⟩, H0.out.2.1, rfl, Below.refl _ _, Only.refl _ _⟩
 case round =>
  obtain ⟨j, hj, rfl, HZ⟩ := hrel
  by_cases hlt : j < l.length
  ·obtain ⟨⟨f', hM⟩, hW, hlen, hB, hO⟩ := HZ.out
   obtain ⟨b, off, rfl, hb, c0, c1⟩ := (hO.lst HL.out.1 HL.out.2).pt hlt
   have HC := hD (fun (wc : World) (h1 : PMem 0 wc base P f' G mode { m with e := ⟨doW m.e.w s k (l.take j), m.e.kept⟩ }) (h2 : Tabs wc base) => doP_any wc h1 h2 hW s (by rw [hlen]; exact hs) ⟨k, l[j].1, l[j].2⟩ (HR.out _ (List.getElem_mem hlt)))
   have HK := hD (doR_ok hW (i := s) (by rw [hlen]; exact hs) (r := ⟨k, l[j].1, l[j].2⟩) (HR.out _ (List.getElem_mem hlt)))
   have HS := hD (doW_succ m.e.w s k hlt)
   have HLN := hD hlen
   have n1 := (Below.refl wr.heap.size wr).alloc (nL _) (.cells #[.string l[j].1, .string l[j].2] 60)
   have HM1 := hD (And.intro (hM.below n1) (And.intro ((HT.out.below hB).below (n1.mono (by have := hB.size; omega))) (And.intro (hB.trans (n1.mono (by have := hB.size; omega))) (hO.trans (Only.below n1)))))
   have X := RowTo.whole wr #[.string l[j].1, .string l[j].2] 60
   obtain ⟨x0, x1⟩ := cells2 X
   unfold ptr at HC
   obtain ⟨Wj, HWj⟩ : ∃ W, Hid (doW m.e.w s k (l.take j) = W) := ⟨_, hD rfl⟩
   rw [HWj.out] at HC HM1 HK HS HLN
   generalize l[j] = q at *
   clear hM hW hlen hB hO n1 X HZ HWj
   go_wp2_with fail
   refine (HC.out _ HM1.out.1 HM1.out.2.1).mono ?_
   rintro e w2 ⟨f2, rfl, hM2, hB2, hO2⟩
   have HF := hD (And.intro hM2 (And.intro (HM1.out.2.2.1.trans hB2) (HM1.out.2.2.2.trans hO2)))
   clear hM2 hB2 hO2 HC HM1 c0 c1 x0 x1
   go_wp2
   go_roundw
   case rel => exact ⟨j + 1, by omega, by go_num, by rw [HS.out]; exact ⟨⟨f2, HF.out.1⟩, HK.out.1, HK.out.2.trans HLN.out, HF.out.2.1, HF.out.2.2⟩⟩
   case measure => simp [intOf]; omega
  ·obtain rfl : j = l.length := by omega
   rw [List.take_length] at HZ
   go_wp2
   go_end0
   obtain ⟨⟨f', hM⟩, hW, hlen, hB, hO⟩ := HZ.out
   exact ⟨⟨f', rfl, hM⟩, hW, hlen, hB, hO⟩
end
end Go.Proofs.YtpbaobmegomfpabGreatDoor
