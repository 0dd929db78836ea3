/-
  Texts of the proof, one behind the other: PRes, PIdN, PReady, PEnq, PAsg, Grid1, BldD.
-/
import Derived.Test.YtpbaobmegomfpabGreatDoorM6
import Derived.Test.YtpbaobmegomfpabGreatDoorM4
import Derived.Test.YtpbaobmegomfpabGreatDoorRows
import Derived.WalkKit
import Derived.WalkSpells
import Derived.Lib.Hide
import Derived.IntWalk
import Derived.WalkSmall
import Derived.Test.YtpbaobmegomfpabGreatDoorM5
import Derived.WalkLawsBesides
set_option linter.unusedVariables false
set_option linter.unusedSimpArgs false
set_option maxRecDepth 100000
open List renaming getElem_toArray → gTA, getElem_cons_zero → gCZ, getElem_cons_succ → gCS, setIfInBounds_toArray → sTA, set_cons_zero → sCZ, set_cons_succ → sCS
open Go.Lib renaming hid → hD
open Nat renaming le_refl → nL
namespace Go.Proofs.YtpbaobmegomfpabGreatDoor
open Go.RowKit
theorem Lst.step' {w w' : World} {v : Value} {l : PL} (h : Lst w w.heap.size v l) (hb : Below w.heap.size w w') : Lst w' w'.heap.size v l := (h.below hb).more hb.size
theorem PMem.un16 {w : World} {base P : Nat} {f : Nat → Value} {G : Nat → Option Nat} {mode : Int} {m : Mach PE} (h : PMem 16 w base P f G mode m) : PMem 0 w base P f G mode m := ⟨h.row, h.p0, h.lo, h.inj, fun k h1 h2 _ => h.sl k h1 h2 (by omega), h.md, h.wld, h.bytes, h.has, h.srv, h.set, h.prep⟩
section
variable {base P : Nat} {f : Nat → Value} {G : Nat → Option Nat} {mode : Int} {m : Mach PE}
def PPost (w : World) (base P : Nat) (mode : Int) (m' : Mach PE) (e : Ending) (w' : World) : Prop := ∃ f' G', e = .returned (.tuple #[]) ∧ PMem 0 w' base P f' G' mode m' ∧ Below base w w'
theorem PMem.plus {w w' : World} (h : PMem 0 w base P f G mode m) (hb : Below w.heap.size w w') {X : Nat} (hX : w.heap.size ≤ X) (hX' : X < w'.heap.size) : PMem 0 w' base P f (upd G 16 (some X)) mode m :=
 ((h.but 16).move (by omega) hb.size (fun b hlt _ => hb.block b hlt) hX hX' (Nat.le_trans (h.lo 0 P h.p0).1 (Nat.le_of_lt (h.lo 0 P h.p0).2))).un16
theorem PMem.five {w : World} {X : Nat} (h : PMem 0 w base P f (upd G 16 (some X)) mode m) (a0 a1 a2 a3 a4 : Value) : PMem 0 (((((w.setCell ⟨X, 0, none⟩ a0).setCell ⟨X, 1, none⟩ a1).setCell ⟨X, 2, none⟩ a2).setCell ⟨X, 3, none⟩ a3).setCell ⟨X, 4, none⟩ a4) base P f (upd G 16 (some X)) mode m := by
 refine ((h.but 16).keep (by omega) (by simp [World.setCell]) (fun b hlt hne => ?_)).un16
 have hbX : b ≠ X := fun e => hne (by unfold upd; rw [if_pos rfl, e])
 rw [Below.heap_setCell _ _ _ _ hbX, Below.heap_setCell _ _ _ _ hbX, Below.heap_setCell _ _ _ _ hbX, Below.heap_setCell _ _ _ _ hbX, Below.heap_setCell _ _ _ _ hbX]
set_option maxHeartbeats 8000000 in
theorem restore_any (w : World) (h : PMem 0 w base P f G mode m) (hT : Tabs w base) (hok : WorldOk m.e.w) {c s : Nat} (hc : c < 6) (hs : (m.get c).srv = some s) (hlt : s < m.e.w.ss.length) (hp1 : ∀ q ∈ (m.e.of c).1, checkE 9 q.1 q.2 = 0) (hp2 : ∀ q ∈ (m.e.of c).2, checkE 11 q.1 q.2 = 0) :
  Calls Tryz.prog 122 #[ptr P 0, ptr P (4 + c * 6)] w (PPost w base P mode { m with e := ⟨restoreW m.e.w s (m.e.of c), m.e.kept⟩ }) := by
 have hP := h.row.lt
 have hbP := (h.lo 0 P h.p0).1
 obtain ⟨q, hq, hqs⟩ := h.srv c hc
 obtain rfl := hqs s hs
 obtain ⟨gB, oB, cB, hf2, hFB, hgB, hcs⟩ := h.wld.at (by omega)
 obtain ⟨v1, v2, v3, v4, sB, i1, i2, i3, i4⟩ := hcs s hlt
 have a2 := h.row.cell (j := 2) (by omega)
 rw [hf2] at a2
 have a3 := h.row.cell (j := 4 + c * 6 + 3) (by omega)
 rw [hq] at a3
 obtain ⟨q0, q1, q2, q3, q4, l1, l2, l3, l4⟩ := sB
 obtain ⟨E1, e1, rfl, hE1⟩ := l1.form
 obtain ⟨E2, e2, rfl, hE2⟩ := l2.form
 obtain ⟨E3, e3, rfl, hE3⟩ := l3.form
 obtain ⟨E4, e4, rfl, hE4⟩ := l4.form
 have hbd := h.wld.wld.sess.bytes
 have hsI : (s : Int) < (m.e.w.ss.length : Int) := by omega
 have HH := hD h
 have hat := at_lt hlt
 rw [← hat] at q0 q1 q2 q3 q4 l1 l2 i1 i2
 have HLL := hD (And.intro (And.intro l1 i1) (And.intro l2 i2))
 have HT := hD hT
 have HOK := hD hok
 have HSR := hD hs
 have HLT := hD hlt
 have HP1 := hD hp1
 have HP2 := hD hp2
 have HKP := hD (show ∃ k1 k2, m.e.of c = (k1, k2) from ⟨_, _, rfl⟩)
 obtain ⟨S, HS⟩ : ∃ S, Hid (m.e.w.at s = S) := ⟨_, hD rfl⟩
 rw [HS.out] at q0 q1 q2 q3 q4 HLL
 clear h hT hok hs hq hqs hf2 hFB hcs l1 l2 l3 l4 i1 i2 i3 i4 hE1 hE2 hE3 hE4 hat hlt hp1 hp2
 obtain ⟨n2, HN2⟩ : ∃ n, Hid (m.e.w.ss.length = n) := ⟨_, hD rfl⟩
 rw [HN2.out] at a2 hbd hsI
 have hsn : s < n2 := by omega
 unfold ptr
 go_enter Tryz.func122, Tryz.ntmps122
 go_wp2_with fail
 refine wp_region_z 12 (fun wx => wx.cell? ⟨P, 2, none⟩ = some (.slice (some ⟨gB, oB, none⟩) n2 cB) ∧ wx.cell? ⟨P, 4 + c * 6 + 3, none⟩ = some (.int .i64 s) ∧ wx.cell? ⟨gB, oB + s * 5, none⟩ = some (.int .i64 S.st) ∧ wx.cell? ⟨gB, oB + s * 5 + 1, none⟩ = some (.slice E1 S.set.length e1) ∧ wx.cell? ⟨gB, oB + s * 5 + 2, none⟩ = some (.slice E2 S.prep.length e2) ∧ wx.cell? ⟨gB, oB + s * 5 + 3, none⟩ = some (.slice E3 S.sav.length e3) ∧ wx.cell? ⟨gB, oB + s * 5 + 4, none⟩ = some (.slice E4 S.wr.length e4)) (by kernel_rfl) (show w.drew.cell? ⟨P, 2, none⟩ = some (.slice (some ⟨gB, oB, none⟩) n2 cB) ∧ w.drew.cell? ⟨P, 4 + c * 6 + 3, none⟩ = some (.int .i64 s) ∧ w.drew.cell? ⟨gB, oB + s * 5, none⟩ = some (.int .i64 S.st) ∧ w.drew.cell? ⟨gB, oB + s * 5 + 1, none⟩ = some (.slice E1 S.set.length e1) ∧ w.drew.cell? ⟨gB, oB + s * 5 + 2, none⟩ = some (.slice E2 S.prep.length e2) ∧ w.drew.cell? ⟨gB, oB + s * 5 + 3, none⟩ = some (.slice E3 S.sav.length e3) ∧ w.drew.cell? ⟨gB, oB + s * 5 + 4, none⟩ = some (.slice E4 S.wr.length e4) from ⟨a2, a3, q0, q1, q2, q3, q4⟩) (fun hS => ?_)
 refine tkZ 0 ?vz0 rfl ?yz0 hS ?rz0
 case yz0 => (intro w hSw; (try dsimp only at hSw); (try simp only [gTA, gCZ, gCS]); go_simp; try with_reducible rfl)
 (try simp only [gTA, gCZ, gCS, Act.put, sTA, sCZ, sCS])
 refine tkZ 1 ?vz1 rfl ?yz1 hS ?rz1
 case yz1 => (intro w hSw; (try dsimp only at hSw); (try simp only [gTA, gCZ, gCS]); go_simp; try with_reducible rfl)
 (try simp only [gTA, gCZ, gCS, Act.put, sTA, sCZ, sCS])
 refine tkZ 2 ?vz2 rfl ?yz2 hS ?rz2
 case yz2 => (intro w hSw; (try dsimp only at hSw); (try simp only [gTA, gCZ, gCS]); go_simp; try with_reducible rfl)
 (try simp only [gTA, gCZ, gCS, Act.put, sTA, sCZ, sCS])
 refine tkZ 3 ?vz3 rfl ?yz3 hS ?rz3
 case yz3 => (intro w hSw; (try dsimp only at hSw); (try simp only [gTA, gCZ, gCS]); go_simp; try with_reducible rfl)
 (try simp only [gTA, gCZ, gCS, Act.put, sTA, sCZ, sCS])
 refine tkZ 4 ?vz4 rfl ?yz4 hS ?rz4
 case yz4 => (intro w hSw; (try dsimp only at hSw); (try simp only [gTA, gCZ, gCS]); go_simp; try with_reducible rfl)
 (try simp only [gTA, gCZ, gCS, Act.put, sTA, sCZ, sCS])
 refine tkZ 5 ?vz5 rfl ?yz5 hS ?rz5
 case yz5 => (intro w hSw; (try dsimp only at hSw); (try simp only [gTA, gCZ, gCS]); go_simp; try with_reducible rfl)
 (try simp only [gTA, gCZ, gCS, Act.put, sTA, sCZ, sCS])
 refine tkZ 6 ?vz6 rfl ?yz6 hS ?rz6
 case yz6 => (intro w hSw; (try dsimp only at hSw); (try simp only [gTA, gCZ, gCS]); go_simp; try with_reducible rfl)
 (try simp only [gTA, gCZ, gCS, Act.put, sTA, sCZ, sCS])
 refine tkZ 7 ?vz7 rfl ?yz7 hS ?rz7
 case yz7 => (intro w hSw; (try dsimp only at hSw); (try simp only [gTA, gCZ, gCS]); go_simp; try with_reducible rfl)
 (try simp only [gTA, gCZ, gCS, Act.put, sTA, sCZ, sCS])
 refine tkZ 8 ?vz8 rfl ?yz8 hS ?rz8
 case yz8 => (intro w hSw; (try dsimp only at hSw); (try simp only [gTA, gCZ, gCS]); go_simp; try with_reducible rfl)
 (try simp only [gTA, gCZ, gCS, Act.put, sTA, sCZ, sCS])
 refine tkZ 9 ?vz9 rfl ?yz9 hS ?rz9
 case yz9 => (intro w hSw; (try dsimp only at hSw); (try simp only [gTA, gCZ, gCS]); go_simp; try with_reducible rfl)
 (try simp only [gTA, gCZ, gCS, Act.put, sTA, sCZ, sCS])
 refine tkZ 10 ?vz10 rfl ?yz10 hS ?rz10
 case yz10 => (intro w hSw; (try dsimp only at hSw); (try simp only [gTA, gCZ, gCS]); go_simp; try with_reducible rfl)
 (try simp only [gTA, gCZ, gCS, Act.put, sTA, sCZ, sCS])
 refine wpAnyZ_one (i := 11) rfl rfl (by kernel_rfl) (fun K hK => ?_)
 (try simp only [gTA, gCZ, gCS])
 go_simp
 have hS2 := (show (w.drew.alloc (.cells #[.int .i64 0, .slice none 0 0, .slice none 0 0, .slice none 0 0, .slice none 0 0] 115)).cell? ⟨P, 2, none⟩ = some (.slice (some ⟨gB, oB, none⟩) n2 cB) ∧ (w.drew.alloc (.cells #[.int .i64 0, .slice none 0 0, .slice none 0 0, .slice none 0 0, .slice none 0 0] 115)).cell? ⟨P, 4 + c * 6 + 3, none⟩ = some (.int .i64 s) ∧ (w.drew.alloc (.cells #[.int .i64 0, .slice none 0 0, .slice none 0 0, .slice none 0 0, .slice none 0 0] 115)).cell? ⟨gB, oB + s * 5, none⟩ = some (.int .i64 S.st) ∧ (w.drew.alloc (.cells #[.int .i64 0, .slice none 0 0, .slice none 0 0, .slice none 0 0, .slice none 0 0] 115)).cell? ⟨gB, oB + s * 5 + 1, none⟩ = some (.slice E1 S.set.length e1) ∧ (w.drew.alloc (.cells #[.int .i64 0, .slice none 0 0, .slice none 0 0, .slice none 0 0, .slice none 0 0] 115)).cell? ⟨gB, oB + s * 5 + 2, none⟩ = some (.slice E2 S.prep.length e2) ∧ (w.drew.alloc (.cells #[.int .i64 0, .slice none 0 0, .slice none 0 0, .slice none 0 0, .slice none 0 0] 115)).cell? ⟨gB, oB + s * 5 + 3, none⟩ = some (.slice E3 S.sav.length e3) ∧ (w.drew.alloc (.cells #[.int .i64 0, .slice none 0 0, .slice none 0 0, .slice none 0 0, .slice none 0 0] 115)).cell? ⟨gB, oB + s * 5 + 4, none⟩ = some (.slice E4 S.wr.length e4) from ⟨((((Below.refl w.heap.size w).drew).alloc (nL _) (.cells #[.int .i64 0, .slice none 0 0, .slice none 0 0, .slice none 0 0, .slice none 0 0] 115)).cell (p := ⟨P, 2, none⟩) hP).trans a2, ((((Below.refl w.heap.size w).drew).alloc (nL _) (.cells #[.int .i64 0, .slice none 0 0, .slice none 0 0, .slice none 0 0, .slice none 0 0] 115)).cell (p := ⟨P, 4 + c * 6 + 3, none⟩) hP).trans a3, ((((Below.refl w.heap.size w).drew).alloc (nL _) (.cells #[.int .i64 0, .slice none 0 0, .slice none 0 0, .slice none 0 0, .slice none 0 0] 115)).cell (p := ⟨gB, oB + s * 5, none⟩) hgB).trans q0, ((((Below.refl w.heap.size w).drew).alloc (nL _) (.cells #[.int .i64 0, .slice none 0 0, .slice none 0 0, .slice none 0 0, .slice none 0 0] 115)).cell (p := ⟨gB, oB + s * 5 + 1, none⟩) hgB).trans q1, ((((Below.refl w.heap.size w).drew).alloc (nL _) (.cells #[.int .i64 0, .slice none 0 0, .slice none 0 0, .slice none 0 0, .slice none 0 0] 115)).cell (p := ⟨gB, oB + s * 5 + 2, none⟩) hgB).trans q2, ((((Below.refl w.heap.size w).drew).alloc (nL _) (.cells #[.int .i64 0, .slice none 0 0, .slice none 0 0, .slice none 0 0, .slice none 0 0] 115)).cell (p := ⟨gB, oB + s * 5 + 3, none⟩) hgB).trans q3, ((((Below.refl w.heap.size w).drew).alloc (nL _) (.cells #[.int .i64 0, .slice none 0 0, .slice none 0 0, .slice none 0 0, .slice none 0 0] 115)).cell (p := ⟨gB, oB + s * 5 + 4, none⟩) hgB).trans q4⟩)
 refine hK.out _ _ hS2 ?_
 clear hK K hS
 have hS := hS2
 clear hS2
 (try simp only [gTA, gCZ, gCS, Act.put, sTA, sCZ, sCS])
 refine wpAnyZ_last rfl rfl (by kernel_rfl) (by kernel_rfl) (fun K hK => ?_)
 (try simp only [gTA, gCZ, gCS])
 go_simp
 refine hK.out _ _ ?_
 clear hK K
 (try simp only [gTA, gCZ, gCS, Act.put, sTA, sCZ, sCS])
 go_wp2_with fail
 have nA : Below w.heap.size w ((w.alloc (.cells #[.int .i64 S.st, .slice E1 S.set.length e1, .slice E2 S.prep.length e2, .slice E3 S.sav.length e3, .slice E4 S.wr.length e4] 115)).drew) := ((Below.refl w.heap.size w).alloc (nL _) (.cells #[.int .i64 S.st, .slice E1 S.set.length e1, .slice E2 S.prep.length e2, .slice E3 S.sav.length e3, .slice E4 S.wr.length e4] 115)).drew
 have HX := hD (show RowTo ((w.alloc (.cells #[.int .i64 S.st, .slice E1 S.set.length e1, .slice E2 S.prep.length e2, .slice E3 S.sav.length e3, .slice E4 S.wr.length e4] 115)).drew) w.heap.size 115 5 [.int .i64 S.st, .slice E1 S.set.length e1, .slice E2 S.prep.length e2, .slice E3 S.sav.length e3, .slice E4 S.wr.length e4] from RowTo.whole w #[.int .i64 S.st, .slice E1 S.set.length e1, .slice E2 S.prep.length e2, .slice E3 S.sav.length e3, .slice E4 S.wr.length e4] 115)
 have hM1 := HH.out.plus nA (X := w.heap.size) (nL _) (by simp [World.drew])
 have HLA := hD (And.intro (And.intro (HLL.out.1.1.step' nA) ((own_lt HLL.out.1.1 HLL.out.1.2).mono (Q := Free (upd G 16 (some w.heap.size))) (fun b hb => free_upd hb.1 (by have := hb.2; omega)))) (And.intro (HLL.out.2.1.step' nA) ((own_lt HLL.out.2.1 HLL.out.2.2).mono (Q := Free (upd G 16 (some w.heap.size))) (fun b hb => free_upd hb.1 (by have := hb.2; omega)))))
 have HBA := hD (nA.mono (Nat.le_trans hbP (Nat.le_of_lt hP)))
 have hXl : w.heap.size < ((w.alloc (.cells #[.int .i64 S.st, .slice E1 S.set.length e1, .slice E2 S.prep.length e2, .slice E3 S.sav.length e3, .slice E4 S.wr.length e4] 115)).drew).heap.size := by simp [World.drew]
 have hPX : P ≠ w.heap.size := by omega
 have hbX : base ≤ w.heap.size := by omega
 have HPU := hD hP
 clear hS
 obtain ⟨W1, HW1⟩ : ∃ u, Hid ((w.alloc (.cells #[.int .i64 S.st, .slice E1 S.set.length e1, .slice E2 S.prep.length e2, .slice E3 S.sav.length e3, .slice E4 S.wr.length e4] 115)).drew = u) := ⟨_, hD rfl⟩
 rw [HW1.out] at HX hM1 HLA HBA hXl ⊢
 clear HW1 nA HH HLL a2 a3 q0 q1 q2 q3 q4 hgB hbd hsI
 generalize w.heap.size = X at *
 skip
 obtain ⟨K1, g1, hk1, _⟩ := (hM1.set c hc).1.form
 obtain ⟨K2, g2, hk2, _⟩ := (hM1.prep c hc).1.form
 have HKL := hD (And.intro (hM1.set c hc) (hM1.prep c hc))
 rw [hk1, hk2] at HKL
 have p3 := hM1.row.cell (j := 4 + c * 6 + 3) (by omega)
 obtain ⟨q, hq, hqs⟩ := hM1.srv c hc
 obtain rfl := hqs s HSR.out
 rw [hq] at p3
 have p4 := hM1.row.cell (j := 4 + c * 6 + 4) (by omega)
 rw [hk1] at p4
 have p5 := hM1.row.cell (j := 4 + c * 6 + 5) (by omega)
 rw [hk2] at p5
 have t1 := HX.out.cell (j := 1) (by simp)
 have t2 := HX.out.cell (j := 2) (by simp)
 simp only [gCZ, gCS] at t1 t2
 have hP1 := hM1.row.lt
 have HM1 := hD hM1
 have HWA := hD (fun (wc : World) (hwc : Below W1.heap.size W1 wc) => without_any _ _ S.set (m.e.of c).1 wc (HLA.out.1.1.step' hwc) (HKL.out.1.1.step' hwc))
 have HWB := hD (fun (wc : World) (hwc : Below W1.heap.size W1 wc) => without_any _ _ S.prep (m.e.of c).2 wc (HLA.out.2.1.step' hwc) (HKL.out.2.1.step' hwc))
 clear hM1 hk1 hk2 hq hqs
 by_cases hA0 : (without S.set (m.e.of c).1).length = 0
 ·by_cases hB0 : (without S.prep (m.e.of c).2).length = 0
  ·as_aux_lemma =>
    have hA := hA0
    have hB := hB0
    have HOR := hD (show ¬ ((without S.set (m.e.of c).1).length > 0 ∨ (without S.prep (m.e.of c).2).length > 0) by omega)
    refine wp_region_z 19 (fun wx => wx.cell? ⟨X, 1, none⟩ = some (.slice E1 S.set.length e1) ∧ wx.cell? ⟨X, 2, none⟩ = some (.slice E2 S.prep.length e2) ∧ wx.cell? ⟨P, 4 + c * 6 + 4, none⟩ = some (.slice K1 (m.e.of c).1.length g1) ∧ wx.cell? ⟨P, 4 + c * 6 + 5, none⟩ = some (.slice K2 (m.e.of c).2.length g2)) (by kernel_rfl) (show W1.drew.cell? ⟨X, 1, none⟩ = some (.slice E1 S.set.length e1) ∧ W1.drew.cell? ⟨X, 2, none⟩ = some (.slice E2 S.prep.length e2) ∧ W1.drew.cell? ⟨P, 4 + c * 6 + 4, none⟩ = some (.slice K1 (m.e.of c).1.length g1) ∧ W1.drew.cell? ⟨P, 4 + c * 6 + 5, none⟩ = some (.slice K2 (m.e.of c).2.length g2) from ⟨t1, t2, p4, p5⟩) (fun hS => ?_)
    refine tkY 0 [1, 6, 9] ?vb20 rfl ?yb20 hS ?rb20
    case yb20 => (intro w hSw; (try dsimp only at hSw); (try simp only [gTA, gCZ, gCS]); go_simp; try with_reducible rfl)
    (try simp only [gTA, gCZ, gCS, Act.put, sTA, sCZ, sCS])
    refine tkY 1 [6, 9] ?vb21 rfl ?yb21 hS ?rb21
    case yb21 => (intro w hSw; (try dsimp only at hSw); (try simp only [gTA, gCZ, gCS]); go_simp; try with_reducible rfl)
    (try simp only [gTA, gCZ, gCS, Act.put, sTA, sCZ, sCS])
    refine tkY 2 [3, 4, 5, 6, 9] ?vb22 rfl ?yb22 hS ?rb22
    case yb22 => (intro w hSw; (try dsimp only at hSw); (try simp only [gTA, gCZ, gCS]); go_simp; try with_reducible rfl)
    (try simp only [gTA, gCZ, gCS, Act.put, sTA, sCZ, sCS])
    refine tkY 3 [4, 5, 6, 9] ?vb23 rfl ?yb23 hS ?rb23
    case yb23 => (intro w hSw; (try dsimp only at hSw); (try simp only [gTA, gCZ, gCS]); go_simp; try with_reducible rfl)
    (try simp only [gTA, gCZ, gCS, Act.put, sTA, sCZ, sCS])
    refine tkY 4 [5, 6, 9] ?vb24 rfl ?yb24 hS ?rb24
    case yb24 => (intro w hSw; (try dsimp only at hSw); (try simp only [gTA, gCZ, gCS]); go_simp; try with_reducible rfl)
    (try simp only [gTA, gCZ, gCS, Act.put, sTA, sCZ, sCS])
    refine tkY 5 [6, 9] ?vb25 rfl ?yb25 hS ?rb25
    case yb25 => (intro w hSw; (try dsimp only at hSw); (try simp only [gTA, gCZ, gCS]); go_simp; try with_reducible rfl)
    (try simp only [gTA, gCZ, gCS, Act.put, sTA, sCZ, sCS])
    refine wpAnyZ_one (i := 6) rfl rfl (by kernel_rfl) (fun K hK => ?_)
    (try simp only [gTA, gCZ, gCS])
    go_simp
    refine (HWA.out _ (Below.refl _ _).drew).mono ?_
    rintro e w3 ⟨u3, rfl, hlu, hiu, hb3⟩
    obtain ⟨Au, cu, hu, _⟩ := hlu.form
    rw [hA] at hu
    subst hu
    have kb := bel_add' (Below.refl W1.heap.size W1).drew hb3 (nL _)
    clear hb3 hlu hiu
    go_simp
    have hS2 := (show w3.cell? ⟨X, 1, none⟩ = some (.slice E1 S.set.length e1) ∧ w3.cell? ⟨X, 2, none⟩ = some (.slice E2 S.prep.length e2) ∧ w3.cell? ⟨P, 4 + c * 6 + 4, none⟩ = some (.slice K1 (m.e.of c).1.length g1) ∧ w3.cell? ⟨P, 4 + c * 6 + 5, none⟩ = some (.slice K2 (m.e.of c).2.length g2) from ⟨(kb.cell (p := ⟨X, 1, none⟩) hXl).trans t1, (kb.cell (p := ⟨X, 2, none⟩) hXl).trans t2, (kb.cell (p := ⟨P, 4 + c * 6 + 4, none⟩) hP1).trans p4, (kb.cell (p := ⟨P, 4 + c * 6 + 5, none⟩) hP1).trans p5⟩)
    refine hK.out _ _ hS2 ?_
    clear hK K hS
    have hS := hS2
    clear hS2
    (try simp only [gTA, gCZ, gCS, Act.put, sTA, sCZ, sCS])
    refine tkY 7 [8, 9] ?vb27 rfl ?yb27 hS ?rb27
    case yb27 => (intro w hSw; (try dsimp only at hSw); (try simp only [gTA, gCZ, gCS]); go_simp; try with_reducible rfl)
    (try simp only [gTA, gCZ, gCS, Act.put, sTA, sCZ, sCS])
    refine tkY 8 [9] ?vb28 rfl ?yb28 hS ?rb28
    case yb28 => (intro w hSw; (try dsimp only at hSw); (try simp only [gTA, gCZ, gCS]); go_simp; try with_reducible rfl)
    (try simp only [gTA, gCZ, gCS, Act.put, sTA, sCZ, sCS])
    refine tkZ 9 ?vb29 rfl ?yb29 hS ?rb29
    case yb29 => (intro w hSw; (try dsimp only at hSw); (try simp only [gTA, gCZ, gCS]); go_simp; try with_reducible rfl)
    (try simp only [gTA, gCZ, gCS, Act.put, sTA, sCZ, sCS])
    refine tkY 10 [11, 16, 17, 18] ?vb210 rfl ?yb210 hS ?rb210
    case yb210 => (intro w hSw; (try dsimp only at hSw); (try simp only [gTA, gCZ, gCS]); go_simp; try with_reducible rfl)
    (try simp only [gTA, gCZ, gCS, Act.put, sTA, sCZ, sCS])
    refine tkY 11 [16, 17, 18] ?vb211 rfl ?yb211 hS ?rb211
    case yb211 => (intro w hSw; (try dsimp only at hSw); (try simp only [gTA, gCZ, gCS]); go_simp; try with_reducible rfl)
    (try simp only [gTA, gCZ, gCS, Act.put, sTA, sCZ, sCS])
    refine tkY 12 [13, 14, 15, 16, 17, 18] ?vb212 rfl ?yb212 hS ?rb212
    case yb212 => (intro w hSw; (try dsimp only at hSw); (try simp only [gTA, gCZ, gCS]); go_simp; try with_reducible rfl)
    (try simp only [gTA, gCZ, gCS, Act.put, sTA, sCZ, sCS])
    refine tkY 13 [14, 15, 16, 17, 18] ?vb213 rfl ?yb213 hS ?rb213
    case yb213 => (intro w hSw; (try dsimp only at hSw); (try simp only [gTA, gCZ, gCS]); go_simp; try with_reducible rfl)
    (try simp only [gTA, gCZ, gCS, Act.put, sTA, sCZ, sCS])
    refine tkY 14 [15, 16, 17, 18] ?vb214 rfl ?yb214 hS ?rb214
    case yb214 => (intro w hSw; (try dsimp only at hSw); (try simp only [gTA, gCZ, gCS]); go_simp; try with_reducible rfl)
    (try simp only [gTA, gCZ, gCS, Act.put, sTA, sCZ, sCS])
    refine tkY 15 [16, 17, 18] ?vb215 rfl ?yb215 hS ?rb215
    case yb215 => (intro w hSw; (try dsimp only at hSw); (try simp only [gTA, gCZ, gCS]); go_simp; try with_reducible rfl)
    (try simp only [gTA, gCZ, gCS, Act.put, sTA, sCZ, sCS])
    refine wpAnyZ_oneG (i := 16) rfl rfl (by kernel_rfl) (fun K hK => ?_)
    (try simp only [gTA, gCZ, gCS])
    go_simp
    refine (HWB.out _ kb).mono ?_
    rintro e w4 ⟨u4, rfl, hlu, hiu, hb4⟩
    obtain ⟨Av, cv, hu, _⟩ := hlu.form
    rw [hB] at hu
    subst hu
    have kb4 := bel_add' kb hb4 kb.size
    clear hb4 hlu hiu
    go_simp
    have hS2 := (show w4.cell? ⟨X, 1, none⟩ = some (.slice E1 S.set.length e1) ∧ w4.cell? ⟨X, 2, none⟩ = some (.slice E2 S.prep.length e2) ∧ w4.cell? ⟨P, 4 + c * 6 + 4, none⟩ = some (.slice K1 (m.e.of c).1.length g1) ∧ w4.cell? ⟨P, 4 + c * 6 + 5, none⟩ = some (.slice K2 (m.e.of c).2.length g2) from ⟨(kb4.cell (p := ⟨X, 1, none⟩) hXl).trans t1, (kb4.cell (p := ⟨X, 2, none⟩) hXl).trans t2, (kb4.cell (p := ⟨P, 4 + c * 6 + 4, none⟩) hP1).trans p4, (kb4.cell (p := ⟨P, 4 + c * 6 + 5, none⟩) hP1).trans p5⟩)
    refine hK.out _ _ hS2 ?_
    clear hK K hS
    have hS := hS2
    clear hS2
    (try simp only [gTA, gCZ, gCS, Act.put, sTA, sCZ, sCS])
    refine tkY 17 [18] ?vb217 rfl ?yb217 hS ?rb217
    case yb217 => (intro w hSw; (try dsimp only at hSw); (try simp only [gTA, gCZ, gCS]); go_simp; try with_reducible rfl)
    (try simp only [gTA, gCZ, gCS, Act.put, sTA, sCZ, sCS])
    refine tkZ 18 ?vb218 rfl ?yb218 hS ?rb218
    case yb218 => (intro w hSw; (try dsimp only at hSw); (try simp only [gTA, gCZ, gCS]); go_simp; try with_reducible rfl)
    (try simp only [gTA, gCZ, gCS, Act.put, sTA, sCZ, sCS])
    refine wpAnyZ_last rfl rfl (by kernel_rfl) (by kernel_rfl) (fun K hK => ?_)
    (try simp only [gTA, gCZ, gCS])
    go_simp
    refine hK.out _ _ ?_
    clear hK K
    (try simp only [gTA, gCZ, gCS, Act.put, sTA, sCZ, sCS])
    clear hS
    have KB := hD kb4
    have hz3 := kb4.size
    clear kb kb4
    have hMT := HM1.out.below KB.out
    have hBT := HBA.out.trans (KB.out.mono (show base ≤ W1.heap.size by omega))
    have hTT := HT.out.below hBT
    have hlT1 := lst_free HLA.out.1 KB.out.size (fun b _ hb => KB.out.block b hb)
    have hlT2 := lst_free HLA.out.2 KB.out.size (fun b _ hb => KB.out.block b hb)
    have xr := HX.out.below KB.out hXl
    clear t1 t2 p3 p4 p5 HWA HWB HX KB HM1 HLA HKL
    obtain ⟨WT, HWT⟩ : ∃ u, Hid (w4 = u) := ⟨_, hD rfl⟩
    rw [HWT.out] at hMT hBT hTT hlT1 hlT2 xr ⊢
    clear HWT
    have HTT := HS
    have HOK5 := HOK
    have HL5 := HLT
    obtain ⟨K1, g1, hk1, _⟩ := (hMT.set c hc).1.form
    have hkl := hMT.set c hc
    rw [hk1] at hkl
    have p3 := hMT.row.cell (j := 4 + c * 6 + 3) (by omega)
    obtain ⟨q, hq, hqs⟩ := hMT.srv c hc
    obtain rfl := hqs s HSR.out
    rw [hq] at p3
    have p4 := hMT.row.cell (j := 4 + c * 6 + 4) (by omega)
    rw [hk1] at p4
    have t1 := xr.cell (j := 1) (by simp)
    have t2 := xr.cell (j := 2) (by simp)
    simp only [gCZ, gCS] at t1 t2
    have hXT := xr.lt
    have hPT := hMT.row.lt
    have HMT := hD hMT
    have HTTb := hD hTT
    have HBT := hD hBT
    have HL1 := hD hlT1
    have HL2 := hD hlT2
    have HT2 := hD t2
    have HWA := hD (fun (wc : World) (hwc : Below WT.heap.size WT wc) => without_any _ _ (m.e.of c).1 S.set wc (hkl.1.step' hwc) (hlT1.1.step' hwc))
    clear hMT hTT hBT hlT1 hlT2 hkl hq hqs xr hk1 t2
    go_wp2_with fail
    refine wp_region_z 12 (fun wx => wx.cell? ⟨P, 4 + c * 6 + 3, none⟩ = some (.int .i64 s) ∧ wx.cell? ⟨P, 4 + c * 6 + 4, none⟩ = some (.slice K1 (m.e.of c).1.length g1) ∧ wx.cell? ⟨X, 1, none⟩ = some (.slice E1 S.set.length e1)) (by kernel_rfl) (show WT.drew.cell? ⟨P, 4 + c * 6 + 3, none⟩ = some (.int .i64 s) ∧ WT.drew.cell? ⟨P, 4 + c * 6 + 4, none⟩ = some (.slice K1 (m.e.of c).1.length g1) ∧ WT.drew.cell? ⟨X, 1, none⟩ = some (.slice E1 S.set.length e1) from ⟨p3, p4, t1⟩) (fun hS => ?_)
    refine tkZ 0 ?vb2d0 rfl ?yb2d0 hS ?rb2d0
    case yb2d0 => (intro w hSw; (try dsimp only at hSw); (try simp only [gTA, gCZ, gCS]); go_simp; try with_reducible rfl)
    (try simp only [gTA, gCZ, gCS, Act.put, sTA, sCZ, sCS])
    refine tkY 1 [2, 3, 4] ?vb2d1 rfl ?yb2d1 hS ?rb2d1
    case yb2d1 => (intro w hSw; (try dsimp only at hSw); (try simp only [gTA, gCZ, gCS]); go_simp; try with_reducible rfl)
    (try simp only [gTA, gCZ, gCS, Act.put, sTA, sCZ, sCS])
    refine tkY 2 [3, 4] ?vb2d2 rfl ?yb2d2 hS ?rb2d2
    case yb2d2 => (intro w hSw; (try dsimp only at hSw); (try simp only [gTA, gCZ, gCS]); go_simp; try with_reducible rfl)
    (try simp only [gTA, gCZ, gCS, Act.put, sTA, sCZ, sCS])
    refine tkY 3 [4] ?vb2d3 rfl ?yb2d3 hS ?rb2d3
    case yb2d3 => (intro w hSw; (try dsimp only at hSw); (try simp only [gTA, gCZ, gCS]); go_simp; try with_reducible rfl)
    (try simp only [gTA, gCZ, gCS, Act.put, sTA, sCZ, sCS])
    refine tkZ 4 ?vb2d4 rfl ?yb2d4 hS ?rb2d4
    case yb2d4 => (intro w hSw; (try dsimp only at hSw); (try simp only [gTA, gCZ, gCS]); go_simp; try with_reducible rfl)
    (try simp only [gTA, gCZ, gCS, Act.put, sTA, sCZ, sCS])
    refine tkY 5 [6, 7, 8, 11] ?vb2d5 rfl ?yb2d5 hS ?rb2d5
    case yb2d5 => (intro w hSw; (try dsimp only at hSw); (try simp only [gTA, gCZ, gCS]); go_simp; try with_reducible rfl)
    (try simp only [gTA, gCZ, gCS, Act.put, sTA, sCZ, sCS])
    refine tkY 6 [7, 8, 11] ?vb2d6 rfl ?yb2d6 hS ?rb2d6
    case yb2d6 => (intro w hSw; (try dsimp only at hSw); (try simp only [gTA, gCZ, gCS]); go_simp; try with_reducible rfl)
    (try simp only [gTA, gCZ, gCS, Act.put, sTA, sCZ, sCS])
    refine tkY 7 [8, 11] ?vb2d7 rfl ?yb2d7 hS ?rb2d7
    case yb2d7 => (intro w hSw; (try dsimp only at hSw); (try simp only [gTA, gCZ, gCS]); go_simp; try with_reducible rfl)
    (try simp only [gTA, gCZ, gCS, Act.put, sTA, sCZ, sCS])
    refine tkY 8 [11] ?vb2d8 rfl ?yb2d8 hS ?rb2d8
    case yb2d8 => (intro w hSw; (try dsimp only at hSw); (try simp only [gTA, gCZ, gCS]); go_simp; try with_reducible rfl)
    (try simp only [gTA, gCZ, gCS, Act.put, sTA, sCZ, sCS])
    refine tkY 9 [10, 11] ?vb2d9 rfl ?yb2d9 hS ?rb2d9
    case yb2d9 => (intro w hSw; (try dsimp only at hSw); (try simp only [gTA, gCZ, gCS]); go_simp; try with_reducible rfl)
    (try simp only [gTA, gCZ, gCS, Act.put, sTA, sCZ, sCS])
    refine tkY 10 [11] ?vb2d10 rfl ?yb2d10 hS ?rb2d10
    case yb2d10 => (intro w hSw; (try dsimp only at hSw); (try simp only [gTA, gCZ, gCS]); go_simp; try with_reducible rfl)
    (try simp only [gTA, gCZ, gCS, Act.put, sTA, sCZ, sCS])
    refine wpAnyZ_one (i := 11) rfl rfl (by kernel_rfl) (fun K hK => ?_)
    (try simp only [gTA, gCZ, gCS])
    go_simp
    refine (HWA.out _ (Below.refl _ _).drew).mono ?_
    rintro e w7 ⟨u7, rfl, hlu, hiu, hb7⟩
    obtain ⟨Au, cu, hu, _⟩ := hlu.form
    have kb := bel_add' (Below.refl WT.heap.size WT).drew hb7 (nL _)
    have HU := hD (And.intro hlu (hiu.mono (Q := fun b => b ≠ P) (fun b hb => by have : WT.heap.size ≤ b := hb; omega)))
    subst hu
    clear hb7 hlu hiu
    go_simp
    have hS2 := (show w7.cell? ⟨P, 4 + c * 6 + 3, none⟩ = some (.int .i64 s) ∧ w7.cell? ⟨P, 4 + c * 6 + 4, none⟩ = some (.slice K1 (m.e.of c).1.length g1) ∧ w7.cell? ⟨X, 1, none⟩ = some (.slice E1 S.set.length e1) from ⟨(kb.cell (p := ⟨P, 4 + c * 6 + 3, none⟩) hPT).trans p3, (kb.cell (p := ⟨P, 4 + c * 6 + 4, none⟩) hPT).trans p4, (kb.cell (p := ⟨X, 1, none⟩) hXT).trans t1⟩)
    refine hK.out _ _ hS2 ?_
    clear hK K hS
    have hS := hS2
    clear hS2
    (try simp only [gTA, gCZ, gCS, Act.put, sTA, sCZ, sCS])
    refine wpAnyZ_last rfl rfl (by kernel_rfl) (by kernel_rfl) (fun K hK => ?_)
    (try simp only [gTA, gCZ, gCS])
    go_simp
    refine (store_any w7 (HMT.out.below kb) (HTTb.out.below (kb.mono (by omega))) HOK5.out s HL5.out 9 _ _ HU.out.1 HU.out.2 (fun q hq => HP1.out q (without_mem.1 hq).1)).mono ?_
    rintro e w8 ⟨⟨f8, rfl, hM8⟩, hW8, hn8, hB8, hO8⟩
    go_simp
    refine hK.out _ _ ?_
    clear hK K
    (try simp only [gTA, gCZ, gCS, Act.put, sTA, sCZ, sCS])
    clear hS
    have hT8 := HTTb.out.below ((kb.mono (by omega)).trans hB8)
    have hB8' := HBT.out.trans ((kb.mono (by omega)).trans hB8)
    have hO8' := (Only.below (P := P) kb).trans hO8
    have x2 := (World.cell?_of_block (a := ⟨X, 2, none⟩) (hO8'.2 X hXT (Ne.symm hPX))).trans HT2.out
    have hX8 : X < w8.heap.size := Nat.lt_of_lt_of_le hXT hO8'.1
    have hl8 := hO8'.lst HL2.out.1 (HL2.out.2.mono (fun b hb e => hb 0 (by rw [e]; exact HMT.out.p0)))
    obtain ⟨K2, g2, hk2, _⟩ := (hM8.prep c hc).1.form
    have hkl := hM8.prep c hc
    rw [hk2] at hkl
    have p3 := hM8.row.cell (j := 4 + c * 6 + 3) (by omega)
    obtain ⟨q, hq, hqs⟩ := hM8.srv c hc
    obtain rfl := hqs s HSR.out
    rw [hq] at p3
    have p5 := hM8.row.cell (j := 4 + c * 6 + 5) (by omega)
    rw [hk2] at p5
    have hP8 := hM8.row.lt
    have HM8 := hD hM8
    have HT8 := hD hT8
    have HB8 := hD hB8'
    have HW8 := hD hW8
    have HN8 := hD hn8
    have HWB := hD (fun (wc : World) (hwc : Below w8.heap.size w8 wc) => without_any _ _ (m.e.of c).2 S.prep wc (hkl.1.step' hwc) (hl8.step' hwc))
    clear kb hM8 hT8 hB8 hB8' hO8 hO8' hW8 hn8 hkl hl8 hq hqs hk2 HMT HTTb HBT HL1 HL2 HT2 HWA HU t1 p4 hPT hXT
    go_wp2_with fail
    refine wp_region_z 12 (fun wx => wx.cell? ⟨P, 4 + c * 6 + 3, none⟩ = some (.int .i64 s) ∧ wx.cell? ⟨P, 4 + c * 6 + 5, none⟩ = some (.slice K2 (m.e.of c).2.length g2) ∧ wx.cell? ⟨X, 2, none⟩ = some (.slice E2 S.prep.length e2)) (by kernel_rfl) (show w8.drew.cell? ⟨P, 4 + c * 6 + 3, none⟩ = some (.int .i64 s) ∧ w8.drew.cell? ⟨P, 4 + c * 6 + 5, none⟩ = some (.slice K2 (m.e.of c).2.length g2) ∧ w8.drew.cell? ⟨X, 2, none⟩ = some (.slice E2 S.prep.length e2) from ⟨p3, p5, x2⟩) (fun hS => ?_)
    refine tkZ 0 ?vb2e0 rfl ?yb2e0 hS ?rb2e0
    case yb2e0 => (intro w hSw; (try dsimp only at hSw); (try simp only [gTA, gCZ, gCS]); go_simp; try with_reducible rfl)
    (try simp only [gTA, gCZ, gCS, Act.put, sTA, sCZ, sCS])
    refine tkY 1 [2, 3, 4] ?vb2e1 rfl ?yb2e1 hS ?rb2e1
    case yb2e1 => (intro w hSw; (try dsimp only at hSw); (try simp only [gTA, gCZ, gCS]); go_simp; try with_reducible rfl)
    (try simp only [gTA, gCZ, gCS, Act.put, sTA, sCZ, sCS])
    refine tkY 2 [3, 4] ?vb2e2 rfl ?yb2e2 hS ?rb2e2
    case yb2e2 => (intro w hSw; (try dsimp only at hSw); (try simp only [gTA, gCZ, gCS]); go_simp; try with_reducible rfl)
    (try simp only [gTA, gCZ, gCS, Act.put, sTA, sCZ, sCS])
    refine tkY 3 [4] ?vb2e3 rfl ?yb2e3 hS ?rb2e3
    case yb2e3 => (intro w hSw; (try dsimp only at hSw); (try simp only [gTA, gCZ, gCS]); go_simp; try with_reducible rfl)
    (try simp only [gTA, gCZ, gCS, Act.put, sTA, sCZ, sCS])
    refine tkZ 4 ?vb2e4 rfl ?yb2e4 hS ?rb2e4
    case yb2e4 => (intro w hSw; (try dsimp only at hSw); (try simp only [gTA, gCZ, gCS]); go_simp; try with_reducible rfl)
    (try simp only [gTA, gCZ, gCS, Act.put, sTA, sCZ, sCS])
    refine tkY 5 [6, 7, 8, 11] ?vb2e5 rfl ?yb2e5 hS ?rb2e5
    case yb2e5 => (intro w hSw; (try dsimp only at hSw); (try simp only [gTA, gCZ, gCS]); go_simp; try with_reducible rfl)
    (try simp only [gTA, gCZ, gCS, Act.put, sTA, sCZ, sCS])
    refine tkY 6 [7, 8, 11] ?vb2e6 rfl ?yb2e6 hS ?rb2e6
    case yb2e6 => (intro w hSw; (try dsimp only at hSw); (try simp only [gTA, gCZ, gCS]); go_simp; try with_reducible rfl)
    (try simp only [gTA, gCZ, gCS, Act.put, sTA, sCZ, sCS])
    refine tkY 7 [8, 11] ?vb2e7 rfl ?yb2e7 hS ?rb2e7
    case yb2e7 => (intro w hSw; (try dsimp only at hSw); (try simp only [gTA, gCZ, gCS]); go_simp; try with_reducible rfl)
    (try simp only [gTA, gCZ, gCS, Act.put, sTA, sCZ, sCS])
    refine tkY 8 [11] ?vb2e8 rfl ?yb2e8 hS ?rb2e8
    case yb2e8 => (intro w hSw; (try dsimp only at hSw); (try simp only [gTA, gCZ, gCS]); go_simp; try with_reducible rfl)
    (try simp only [gTA, gCZ, gCS, Act.put, sTA, sCZ, sCS])
    refine tkY 9 [10, 11] ?vb2e9 rfl ?yb2e9 hS ?rb2e9
    case yb2e9 => (intro w hSw; (try dsimp only at hSw); (try simp only [gTA, gCZ, gCS]); go_simp; try with_reducible rfl)
    (try simp only [gTA, gCZ, gCS, Act.put, sTA, sCZ, sCS])
    refine tkY 10 [11] ?vb2e10 rfl ?yb2e10 hS ?rb2e10
    case yb2e10 => (intro w hSw; (try dsimp only at hSw); (try simp only [gTA, gCZ, gCS]); go_simp; try with_reducible rfl)
    (try simp only [gTA, gCZ, gCS, Act.put, sTA, sCZ, sCS])
    refine wpAnyZ_one (i := 11) rfl rfl (by kernel_rfl) (fun K hK => ?_)
    (try simp only [gTA, gCZ, gCS])
    go_simp
    refine (HWB.out _ (Below.refl _ _).drew).mono ?_
    rintro e w9 ⟨u9, rfl, hlu, hiu, hb9⟩
    obtain ⟨Au, cu, hu, _⟩ := hlu.form
    have kb := bel_add' (Below.refl w8.heap.size w8).drew hb9 (nL _)
    have HU := hD (And.intro hlu (hiu.mono (Q := fun b => b ≠ P) (fun b hb => by have : w8.heap.size ≤ b := hb; omega)))
    subst hu
    clear hb9 hlu hiu
    go_simp
    have hS2 := (show w9.cell? ⟨P, 4 + c * 6 + 3, none⟩ = some (.int .i64 s) ∧ w9.cell? ⟨P, 4 + c * 6 + 5, none⟩ = some (.slice K2 (m.e.of c).2.length g2) ∧ w9.cell? ⟨X, 2, none⟩ = some (.slice E2 S.prep.length e2) from ⟨(kb.cell (p := ⟨P, 4 + c * 6 + 3, none⟩) hP8).trans p3, (kb.cell (p := ⟨P, 4 + c * 6 + 5, none⟩) hP8).trans p5, (kb.cell (p := ⟨X, 2, none⟩) hX8).trans x2⟩)
    refine hK.out _ _ hS2 ?_
    clear hK K hS
    have hS := hS2
    clear hS2
    (try simp only [gTA, gCZ, gCS, Act.put, sTA, sCZ, sCS])
    refine wpAnyZ_last rfl rfl (by kernel_rfl) (by kernel_rfl) (fun K hK => ?_)
    (try simp only [gTA, gCZ, gCS])
    go_simp
    refine (store_any w9 (HM8.out.below kb) (HT8.out.below (kb.mono (by omega))) HW8.out s (by show s < (doW m.e.w s 9 _).ss.length; rw [HN8.out]; exact HL5.out) 11 _ _ HU.out.1 HU.out.2 (fun q hq => HP2.out q (without_mem.1 hq).1)).mono ?_
    rintro e wA ⟨⟨fA, rfl, hMA⟩, _, _, hBA, hOA⟩
    go_simp
    refine hK.out _ _ ?_
    clear hK K
    (try simp only [gTA, gCZ, gCS, Act.put, sTA, sCZ, sCS])
    have HRW : restoreW m.e.w s (m.e.of c) = doW (doW m.e.w s 9 (without (m.e.of c).1 S.set)) s 11 (without (m.e.of c).2 S.prep) := by
     unfold restoreW
     simp only [HS.out]
     rw [if_neg HOR.out, HS.out]
    clear hS
    have HFF := hD (And.intro hMA (HB8.out.trans ((kb.mono (by omega)).trans hBA)))
    clear hMA hBA hOA kb HM8 HT8 HB8 HW8 HN8 HWB HU p3 p5 x2
    go_wp2
    go_end0
    try rw [HRW]
    exact ⟨_, _, rfl, HFF.out.1, HFF.out.2⟩
  ·as_aux_lemma =>
    have hA := hA0
    obtain ⟨nB, hB⟩ : ∃ n, (without S.prep (m.e.of c).2).length = n := ⟨_, rfl⟩
    have hpos : 0 < nB := by omega
    have hd : decide (0 < (nB : Int)) = true := decide_eq_true (by omega)
    have HOR := hD (show (without S.set (m.e.of c).1).length > 0 ∨ (without S.prep (m.e.of c).2).length > 0 by omega)
    refine wp_region_z 19 (fun wx => wx.cell? ⟨X, 1, none⟩ = some (.slice E1 S.set.length e1) ∧ wx.cell? ⟨X, 2, none⟩ = some (.slice E2 S.prep.length e2) ∧ wx.cell? ⟨P, 4 + c * 6 + 4, none⟩ = some (.slice K1 (m.e.of c).1.length g1) ∧ wx.cell? ⟨P, 4 + c * 6 + 5, none⟩ = some (.slice K2 (m.e.of c).2.length g2)) (by kernel_rfl) (show W1.drew.cell? ⟨X, 1, none⟩ = some (.slice E1 S.set.length e1) ∧ W1.drew.cell? ⟨X, 2, none⟩ = some (.slice E2 S.prep.length e2) ∧ W1.drew.cell? ⟨P, 4 + c * 6 + 4, none⟩ = some (.slice K1 (m.e.of c).1.length g1) ∧ W1.drew.cell? ⟨P, 4 + c * 6 + 5, none⟩ = some (.slice K2 (m.e.of c).2.length g2) from ⟨t1, t2, p4, p5⟩) (fun hS => ?_)
    refine tkY 0 [1, 6, 9] ?vb10 rfl ?yb10 hS ?rb10
    case yb10 => (intro w hSw; (try dsimp only at hSw); (try simp only [gTA, gCZ, gCS]); go_simp; try with_reducible rfl)
    (try simp only [gTA, gCZ, gCS, Act.put, sTA, sCZ, sCS])
    refine tkY 1 [6, 9] ?vb11 rfl ?yb11 hS ?rb11
    case yb11 => (intro w hSw; (try dsimp only at hSw); (try simp only [gTA, gCZ, gCS]); go_simp; try with_reducible rfl)
    (try simp only [gTA, gCZ, gCS, Act.put, sTA, sCZ, sCS])
    refine tkY 2 [3, 4, 5, 6, 9] ?vb12 rfl ?yb12 hS ?rb12
    case yb12 => (intro w hSw; (try dsimp only at hSw); (try simp only [gTA, gCZ, gCS]); go_simp; try with_reducible rfl)
    (try simp only [gTA, gCZ, gCS, Act.put, sTA, sCZ, sCS])
    refine tkY 3 [4, 5, 6, 9] ?vb13 rfl ?yb13 hS ?rb13
    case yb13 => (intro w hSw; (try dsimp only at hSw); (try simp only [gTA, gCZ, gCS]); go_simp; try with_reducible rfl)
    (try simp only [gTA, gCZ, gCS, Act.put, sTA, sCZ, sCS])
    refine tkY 4 [5, 6, 9] ?vb14 rfl ?yb14 hS ?rb14
    case yb14 => (intro w hSw; (try dsimp only at hSw); (try simp only [gTA, gCZ, gCS]); go_simp; try with_reducible rfl)
    (try simp only [gTA, gCZ, gCS, Act.put, sTA, sCZ, sCS])
    refine tkY 5 [6, 9] ?vb15 rfl ?yb15 hS ?rb15
    case yb15 => (intro w hSw; (try dsimp only at hSw); (try simp only [gTA, gCZ, gCS]); go_simp; try with_reducible rfl)
    (try simp only [gTA, gCZ, gCS, Act.put, sTA, sCZ, sCS])
    refine wpAnyZ_one (i := 6) rfl rfl (by kernel_rfl) (fun K hK => ?_)
    (try simp only [gTA, gCZ, gCS])
    go_simp
    refine (HWA.out _ (Below.refl _ _).drew).mono ?_
    rintro e w3 ⟨u3, rfl, hlu, hiu, hb3⟩
    obtain ⟨Au, cu, hu, _⟩ := hlu.form
    rw [hA] at hu
    subst hu
    have kb := bel_add' (Below.refl W1.heap.size W1).drew hb3 (nL _)
    clear hb3 hlu hiu
    go_simp
    have hS2 := (show w3.cell? ⟨X, 1, none⟩ = some (.slice E1 S.set.length e1) ∧ w3.cell? ⟨X, 2, none⟩ = some (.slice E2 S.prep.length e2) ∧ w3.cell? ⟨P, 4 + c * 6 + 4, none⟩ = some (.slice K1 (m.e.of c).1.length g1) ∧ w3.cell? ⟨P, 4 + c * 6 + 5, none⟩ = some (.slice K2 (m.e.of c).2.length g2) from ⟨(kb.cell (p := ⟨X, 1, none⟩) hXl).trans t1, (kb.cell (p := ⟨X, 2, none⟩) hXl).trans t2, (kb.cell (p := ⟨P, 4 + c * 6 + 4, none⟩) hP1).trans p4, (kb.cell (p := ⟨P, 4 + c * 6 + 5, none⟩) hP1).trans p5⟩)
    refine hK.out _ _ hS2 ?_
    clear hK K hS
    have hS := hS2
    clear hS2
    (try simp only [gTA, gCZ, gCS, Act.put, sTA, sCZ, sCS])
    refine tkY 7 [8, 9] ?vb17 rfl ?yb17 hS ?rb17
    case yb17 => (intro w hSw; (try dsimp only at hSw); (try simp only [gTA, gCZ, gCS]); go_simp; try with_reducible rfl)
    (try simp only [gTA, gCZ, gCS, Act.put, sTA, sCZ, sCS])
    refine tkY 8 [9] ?vb18 rfl ?yb18 hS ?rb18
    case yb18 => (intro w hSw; (try dsimp only at hSw); (try simp only [gTA, gCZ, gCS]); go_simp; try with_reducible rfl)
    (try simp only [gTA, gCZ, gCS, Act.put, sTA, sCZ, sCS])
    refine tkZ 9 ?vb19 rfl ?yb19 hS ?rb19
    case yb19 => (intro w hSw; (try dsimp only at hSw); (try simp only [gTA, gCZ, gCS]); go_simp; try with_reducible rfl)
    (try simp only [gTA, gCZ, gCS, Act.put, sTA, sCZ, sCS])
    refine tkY 10 [11, 16, 17, 18] ?vb110 rfl ?yb110 hS ?rb110
    case yb110 => (intro w hSw; (try dsimp only at hSw); (try simp only [gTA, gCZ, gCS]); go_simp; try with_reducible rfl)
    (try simp only [gTA, gCZ, gCS, Act.put, sTA, sCZ, sCS])
    refine tkY 11 [16, 17, 18] ?vb111 rfl ?yb111 hS ?rb111
    case yb111 => (intro w hSw; (try dsimp only at hSw); (try simp only [gTA, gCZ, gCS]); go_simp; try with_reducible rfl)
    (try simp only [gTA, gCZ, gCS, Act.put, sTA, sCZ, sCS])
    refine tkY 12 [13, 14, 15, 16, 17, 18] ?vb112 rfl ?yb112 hS ?rb112
    case yb112 => (intro w hSw; (try dsimp only at hSw); (try simp only [gTA, gCZ, gCS]); go_simp; try with_reducible rfl)
    (try simp only [gTA, gCZ, gCS, Act.put, sTA, sCZ, sCS])
    refine tkY 13 [14, 15, 16, 17, 18] ?vb113 rfl ?yb113 hS ?rb113
    case yb113 => (intro w hSw; (try dsimp only at hSw); (try simp only [gTA, gCZ, gCS]); go_simp; try with_reducible rfl)
    (try simp only [gTA, gCZ, gCS, Act.put, sTA, sCZ, sCS])
    refine tkY 14 [15, 16, 17, 18] ?vb114 rfl ?yb114 hS ?rb114
    case yb114 => (intro w hSw; (try dsimp only at hSw); (try simp only [gTA, gCZ, gCS]); go_simp; try with_reducible rfl)
    (try simp only [gTA, gCZ, gCS, Act.put, sTA, sCZ, sCS])
    refine tkY 15 [16, 17, 18] ?vb115 rfl ?yb115 hS ?rb115
    case yb115 => (intro w hSw; (try dsimp only at hSw); (try simp only [gTA, gCZ, gCS]); go_simp; try with_reducible rfl)
    (try simp only [gTA, gCZ, gCS, Act.put, sTA, sCZ, sCS])
    refine wpAnyZ_oneG (i := 16) rfl rfl (by kernel_rfl) (fun K hK => ?_)
    (try simp only [gTA, gCZ, gCS])
    go_simp
    refine (HWB.out _ kb).mono ?_
    rintro e w4 ⟨u4, rfl, hlu, hiu, hb4⟩
    obtain ⟨Av, cv, hu, _⟩ := hlu.form
    rw [hB] at hu
    subst hu
    have kb4 := bel_add' kb hb4 kb.size
    clear hb4 hlu hiu
    go_simp
    have hS2 := (show w4.cell? ⟨X, 1, none⟩ = some (.slice E1 S.set.length e1) ∧ w4.cell? ⟨X, 2, none⟩ = some (.slice E2 S.prep.length e2) ∧ w4.cell? ⟨P, 4 + c * 6 + 4, none⟩ = some (.slice K1 (m.e.of c).1.length g1) ∧ w4.cell? ⟨P, 4 + c * 6 + 5, none⟩ = some (.slice K2 (m.e.of c).2.length g2) from ⟨(kb4.cell (p := ⟨X, 1, none⟩) hXl).trans t1, (kb4.cell (p := ⟨X, 2, none⟩) hXl).trans t2, (kb4.cell (p := ⟨P, 4 + c * 6 + 4, none⟩) hP1).trans p4, (kb4.cell (p := ⟨P, 4 + c * 6 + 5, none⟩) hP1).trans p5⟩)
    refine hK.out _ _ hS2 ?_
    clear hK K hS
    have hS := hS2
    clear hS2
    (try simp only [gTA, gCZ, gCS, Act.put, sTA, sCZ, sCS])
    refine tkY 17 [18] ?vb117 rfl ?yb117 hS ?rb117
    case yb117 => (intro w hSw; (try dsimp only at hSw); (try simp only [gTA, gCZ, gCS]); go_simp; try with_reducible rfl)
    (try simp only [gTA, gCZ, gCS, Act.put, sTA, sCZ, sCS])
    refine tkZ 18 ?vb118 rfl ?yb118 hS ?rb118
    case yb118 => (intro w hSw; (try dsimp only at hSw); (try simp only [gTA, gCZ, gCS]); go_simp; try with_reducible rfl)
    (try simp only [gTA, gCZ, gCS, Act.put, sTA, sCZ, sCS])
    refine wpAnyZ_last rfl rfl (by kernel_rfl) (by kernel_rfl) (fun K hK => ?_)
    (try simp only [gTA, gCZ, gCS])
    go_simp
    refine hK.out _ _ ?_
    clear hK K
    (try simp only [gTA, gCZ, gCS, Act.put, sTA, sCZ, sCS])
    clear hS
    have KB := hD kb4
    have hz3 := kb4.size
    clear kb kb4
    have b3 := (KB.out.cell (p := ⟨P, 4 + c * 6 + 3, none⟩) hP1).trans p3
    have hPw : P < w4.heap.size := by omega
    have HMw := hD (HM1.out.below KB.out)
    have HTw := hD (HT.out.below (HBA.out.trans (KB.out.mono (by omega))))
    have HXw := hD (HX.out.below KB.out hXl)
    have hXw : X < w4.heap.size := by omega
    have HBw := hD (HBA.out.trans (KB.out.mono (by omega)))
    clear t1 t2 p3 p4 p5 HWA HWB HX KB HM1 HLA HKL
    go_wp2_with fail
    refine (doP_any w4 HMw.out HTw.out HOK.out s HLT.out ⟨4, ⟨#[]⟩, ⟨#[]⟩⟩ (small_ok (by decide) (by decide))).mono ?_
    rintro e w5 ⟨f5, rfl, hM5, hB5, hO5⟩
    have hX5 := HXw.out.same (hO5.2 X hXw (Ne.symm hPX))
    have HB5 := hD (HBw.out.trans hB5)
    have HT5 := hD (HTw.out.below hB5)
    have hz5 := hO5.1
    have hok5 := doR_ok HOK.out HLT.out (r := ⟨4, ⟨#[]⟩, ⟨#[]⟩⟩) (small_ok (by decide) (by decide))
    clear hB5 hO5 HMw HTw HXw HBw b3
    generalize hW : (doR m.e.w s ⟨4, ⟨#[]⟩, ⟨#[]⟩⟩).1 = V at *
    have HV := hD hW
    clear hW
    have hl5 : s < V.ss.length := by rw [hok5.2]; exact HLT.out
    have HL5 := hD hl5
    have HOK5 := hD hok5.1
    have hsI : (s : Int) < (V.ss.length : Int) := by omega
    obtain ⟨gB, oB, cB, hf2, hFB, hgB, hcs⟩ := hM5.wld.at (show 0 < V.ss.length by omega)
    obtain ⟨v1, v2, v3, v4, sB, i1, i2, i3, i4⟩ := hcs s hl5
    have a2 := hM5.row.cell (j := 2) (by omega)
    rw [hf2] at a2
    have a3 := hM5.row.cell (j := 4 + c * 6 + 3) (by omega)
    obtain ⟨q, hq, hqs⟩ := hM5.srv c hc
    obtain rfl := hqs s HSR.out
    rw [hq] at a3
    obtain ⟨q0, q1, q2, q3, q4, l1, l2, l3, l4⟩ := sB
    obtain ⟨F1, f1, rfl, hE1⟩ := l1.form
    obtain ⟨F2, f2, rfl, hE2⟩ := l2.form
    obtain ⟨F3, f3, rfl, hE3⟩ := l3.form
    obtain ⟨F4, f4, rfl, hE4⟩ := l4.form
    have hbd := hM5.wld.wld.sess.bytes
    have hat := at_lt hl5
    simp only [← hat] at q0 q1 q2 q3 q4 l1 l2 i1 i2
    have HLL := hD (And.intro (And.intro l1 i1) (And.intro l2 i2))
    obtain ⟨T, HTT⟩ : ∃ T, Hid (V.at s = T) := ⟨_, hD rfl⟩
    simp only [HTT.out] at q0 q1 q2 q3 q4 HLL
    have HM5 := hD hM5
    have hP5 := hM5.row.lt
    have hgX : gB ≠ X := fun e => hFB 16 (by unfold upd; rw [if_pos rfl, e])
    have HXX := hD hX5
    have hX5l := hX5.lt
    have y0 := hX5.cell (j := 0) (by simp)
    have y1 := hX5.cell (j := 1) (by simp)
    have y2 := hX5.cell (j := 2) (by simp)
    have y3 := hX5.cell (j := 3) (by simp)
    have y4 := hX5.cell (j := 4) (by simp)
    simp only [gCZ, gCS] at y0 y1 y2 y3 y4
    have z0 := hX5.frozen 0
    have z1 := hX5.frozen 1
    have z2 := hX5.frozen 2
    have z3 := hX5.frozen 3
    have z4 := hX5.frozen 4
    clear hM5 hok5 hf2 hFB hcs l1 l2 l3 l4 i1 i2 i3 i4 hE1 hE2 hE3 hE4 hat hq hqs hX5
    obtain ⟨n5, HN5⟩ : ∃ n, Hid (V.ss.length = n) := ⟨_, hD rfl⟩
    rw [HN5.out] at a2 hbd hsI hl5
    go_wp2_with fail
    refine wp_region_z 11 (fun wx => wx.cell? ⟨P, 2, none⟩ = some (.slice (some ⟨gB, oB, none⟩) n5 cB) ∧ wx.cell? ⟨P, 4 + c * 6 + 3, none⟩ = some (.int .i64 s) ∧ wx.cell? ⟨gB, oB + s * 5, none⟩ = some (.int .i64 T.st) ∧ wx.cell? ⟨gB, oB + s * 5 + 1, none⟩ = some (.slice F1 T.set.length f1) ∧ wx.cell? ⟨gB, oB + s * 5 + 2, none⟩ = some (.slice F2 T.prep.length f2) ∧ wx.cell? ⟨gB, oB + s * 5 + 3, none⟩ = some (.slice F3 T.sav.length f3) ∧ wx.cell? ⟨gB, oB + s * 5 + 4, none⟩ = some (.slice F4 T.wr.length f4)) (by kernel_rfl) (show w5.drew.cell? ⟨P, 2, none⟩ = some (.slice (some ⟨gB, oB, none⟩) n5 cB) ∧ w5.drew.cell? ⟨P, 4 + c * 6 + 3, none⟩ = some (.int .i64 s) ∧ w5.drew.cell? ⟨gB, oB + s * 5, none⟩ = some (.int .i64 T.st) ∧ w5.drew.cell? ⟨gB, oB + s * 5 + 1, none⟩ = some (.slice F1 T.set.length f1) ∧ w5.drew.cell? ⟨gB, oB + s * 5 + 2, none⟩ = some (.slice F2 T.prep.length f2) ∧ w5.drew.cell? ⟨gB, oB + s * 5 + 3, none⟩ = some (.slice F3 T.sav.length f3) ∧ w5.drew.cell? ⟨gB, oB + s * 5 + 4, none⟩ = some (.slice F4 T.wr.length f4) from ⟨a2, a3, q0, q1, q2, q3, q4⟩) (fun hS => ?_)
    refine tkZ 0 ?vb1r0 rfl ?yb1r0 hS ?rb1r0
    case yb1r0 => (intro w hSw; (try dsimp only at hSw); (try simp only [gTA, gCZ, gCS]); go_simp; try with_reducible rfl)
    (try simp only [gTA, gCZ, gCS, Act.put, sTA, sCZ, sCS])
    refine tkZ 1 ?vb1r1 rfl ?yb1r1 hS ?rb1r1
    case yb1r1 => (intro w hSw; (try dsimp only at hSw); (try simp only [gTA, gCZ, gCS]); go_simp; try with_reducible rfl)
    (try simp only [gTA, gCZ, gCS, Act.put, sTA, sCZ, sCS])
    refine tkZ 2 ?vb1r2 rfl ?yb1r2 hS ?rb1r2
    case yb1r2 => (intro w hSw; (try dsimp only at hSw); (try simp only [gTA, gCZ, gCS]); go_simp; try with_reducible rfl)
    (try simp only [gTA, gCZ, gCS, Act.put, sTA, sCZ, sCS])
    refine tkZ 3 ?vb1r3 rfl ?yb1r3 hS ?rb1r3
    case yb1r3 => (intro w hSw; (try dsimp only at hSw); (try simp only [gTA, gCZ, gCS]); go_simp; try with_reducible rfl)
    (try simp only [gTA, gCZ, gCS, Act.put, sTA, sCZ, sCS])
    refine tkZ 4 ?vb1r4 rfl ?yb1r4 hS ?rb1r4
    case yb1r4 => (intro w hSw; (try dsimp only at hSw); (try simp only [gTA, gCZ, gCS]); go_simp; try with_reducible rfl)
    (try simp only [gTA, gCZ, gCS, Act.put, sTA, sCZ, sCS])
    refine tkZ 5 ?vb1r5 rfl ?yb1r5 hS ?rb1r5
    case yb1r5 => (intro w hSw; (try dsimp only at hSw); (try simp only [gTA, gCZ, gCS]); go_simp; try with_reducible rfl)
    (try simp only [gTA, gCZ, gCS, Act.put, sTA, sCZ, sCS])
    refine tkZ 6 ?vb1r6 rfl ?yb1r6 hS ?rb1r6
    case yb1r6 => (intro w hSw; (try dsimp only at hSw); (try simp only [gTA, gCZ, gCS]); go_simp; try with_reducible rfl)
    (try simp only [gTA, gCZ, gCS, Act.put, sTA, sCZ, sCS])
    refine tkZ 7 ?vb1r7 rfl ?yb1r7 hS ?rb1r7
    case yb1r7 => (intro w hSw; (try dsimp only at hSw); (try simp only [gTA, gCZ, gCS]); go_simp; try with_reducible rfl)
    (try simp only [gTA, gCZ, gCS, Act.put, sTA, sCZ, sCS])
    refine tkZ 8 ?vb1r8 rfl ?yb1r8 hS ?rb1r8
    case yb1r8 => (intro w hSw; (try dsimp only at hSw); (try simp only [gTA, gCZ, gCS]); go_simp; try with_reducible rfl)
    (try simp only [gTA, gCZ, gCS, Act.put, sTA, sCZ, sCS])
    refine tkZ 9 ?vb1r9 rfl ?yb1r9 hS ?rb1r9
    case yb1r9 => (intro w hSw; (try dsimp only at hSw); (try simp only [gTA, gCZ, gCS]); go_simp; try with_reducible rfl)
    (try simp only [gTA, gCZ, gCS, Act.put, sTA, sCZ, sCS])
    refine tkZ 10 ?vb1r10 rfl ?yb1r10 hS ?rb1r10
    case yb1r10 => (intro w hSw; (try dsimp only at hSw); (try simp only [gTA, gCZ, gCS]); go_simp; try with_reducible rfl)
    (try simp only [gTA, gCZ, gCS, Act.put, sTA, sCZ, sCS])
    refine wpAnyZ_last rfl rfl (by kernel_rfl) (by kernel_rfl) (fun K hK => ?_)
    (try simp only [gTA, gCZ, gCS])
    go_simp
    refine hK.out _ _ ?_
    clear hK K
    (try simp only [gTA, gCZ, gCS, Act.put, sTA, sCZ, sCS])
    clear hS
    have hMT := (HM5.out.five (.int .i64 T.st) (.slice F1 T.set.length f1) (.slice F2 T.prep.length f2) (.slice F3 T.sav.length f3) (.slice F4 T.wr.length f4)).below (Below.refl _ _).drew
    have hkk : ∀ b, b ≠ X → (((((w5.setCell ⟨X, 0, none⟩ (.int .i64 T.st)).setCell ⟨X, 1, none⟩ (.slice F1 T.set.length f1)).setCell ⟨X, 2, none⟩ (.slice F2 T.prep.length f2)).setCell ⟨X, 3, none⟩ (.slice F3 T.sav.length f3)).setCell ⟨X, 4, none⟩ (.slice F4 T.wr.length f4)).drew.heap[b]? = w5.heap[b]? := fun b hb => by
     show (((((w5.setCell ⟨X, 0, none⟩ (.int .i64 T.st)).setCell ⟨X, 1, none⟩ (.slice F1 T.set.length f1)).setCell ⟨X, 2, none⟩ (.slice F2 T.prep.length f2)).setCell ⟨X, 3, none⟩ (.slice F3 T.sav.length f3)).setCell ⟨X, 4, none⟩ (.slice F4 T.wr.length f4)).heap[b]? = _
     rw [Below.heap_setCell _ _ _ _ hb, Below.heap_setCell _ _ _ _ hb, Below.heap_setCell _ _ _ _ hb, Below.heap_setCell _ _ _ _ hb, Below.heap_setCell _ _ _ _ hb]
    have hzz : (((((w5.setCell ⟨X, 0, none⟩ (.int .i64 T.st)).setCell ⟨X, 1, none⟩ (.slice F1 T.set.length f1)).setCell ⟨X, 2, none⟩ (.slice F2 T.prep.length f2)).setCell ⟨X, 3, none⟩ (.slice F3 T.sav.length f3)).setCell ⟨X, 4, none⟩ (.slice F4 T.wr.length f4)).drew.heap.size = w5.heap.size := by simp [World.setCell, World.drew]
    have hBT : Below base w (((((w5.setCell ⟨X, 0, none⟩ (.int .i64 T.st)).setCell ⟨X, 1, none⟩ (.slice F1 T.set.length f1)).setCell ⟨X, 2, none⟩ (.slice F2 T.prep.length f2)).setCell ⟨X, 3, none⟩ (.slice F3 T.sav.length f3)).setCell ⟨X, 4, none⟩ (.slice F4 T.wr.length f4)).drew := by
     have h0 := HB5.out
     exact ((((((h0.setCell (p := ⟨X, 0, none⟩) hbX (.int .i64 T.st)).setCell (p := ⟨X, 1, none⟩) hbX (.slice F1 T.set.length f1)).setCell (p := ⟨X, 2, none⟩) hbX (.slice F2 T.prep.length f2)).setCell (p := ⟨X, 3, none⟩) hbX (.slice F3 T.sav.length f3)).setCell (p := ⟨X, 4, none⟩) hbX (.slice F4 T.wr.length f4))).drew
    have hTT := HT5.out.below (show Below base w5 (((((w5.setCell ⟨X, 0, none⟩ (.int .i64 T.st)).setCell ⟨X, 1, none⟩ (.slice F1 T.set.length f1)).setCell ⟨X, 2, none⟩ (.slice F2 T.prep.length f2)).setCell ⟨X, 3, none⟩ (.slice F3 T.sav.length f3)).setCell ⟨X, 4, none⟩ (.slice F4 T.wr.length f4)).drew from (((((((Below.refl base w5).setCell (p := ⟨X, 0, none⟩) hbX (.int .i64 T.st)).setCell (p := ⟨X, 1, none⟩) hbX (.slice F1 T.set.length f1)).setCell (p := ⟨X, 2, none⟩) hbX (.slice F2 T.prep.length f2)).setCell (p := ⟨X, 3, none⟩) hbX (.slice F3 T.sav.length f3)).setCell (p := ⟨X, 4, none⟩) hbX (.slice F4 T.wr.length f4))).drew)
    have hlT1 := lst_free HLL.out.1 (Nat.le_of_eq hzz.symm) (fun b hb _ => hkk b (fun e => hb 16 (by unfold upd; rw [if_pos rfl, e])))
    have hlT2 := lst_free HLL.out.2 (Nat.le_of_eq hzz.symm) (fun b hb _ => hkk b (fun e => hb 16 (by unfold upd; rw [if_pos rfl, e])))
    have xr := (HXX.out.put (j := 0) (by simp) (.int .i64 T.st))
    have xr := (xr.put (j := 1) (by simp) (.slice F1 T.set.length f1))
    have xr := (xr.put (j := 2) (by simp) (.slice F2 T.prep.length f2))
    have xr := (xr.put (j := 3) (by simp) (.slice F3 T.sav.length f3))
    have xr := (xr.put (j := 4) (by simp) (.slice F4 T.wr.length f4))
    have xr := xr.drew
    simp only [sCZ, sCS] at xr
    obtain ⟨WT, HWT⟩ : ∃ u, Hid ((((((w5.setCell ⟨X, 0, none⟩ (.int .i64 T.st)).setCell ⟨X, 1, none⟩ (.slice F1 T.set.length f1)).setCell ⟨X, 2, none⟩ (.slice F2 T.prep.length f2)).setCell ⟨X, 3, none⟩ (.slice F3 T.sav.length f3)).setCell ⟨X, 4, none⟩ (.slice F4 T.wr.length f4)).drew = u) := ⟨_, hD rfl⟩
    rw [HWT.out] at hMT hBT hTT hlT1 hlT2 xr hzz ⊢
    clear HWT hkk HLL HM5 HB5 HT5 HXX a2 a3 q0 q1 q2 q3 q4 y0 y1 y2 y3 y4 z0 z1 z2 z3 z4 hbd hsI hgB hgX hzz HN5
    obtain ⟨K1, g1, hk1, _⟩ := (hMT.set c hc).1.form
    have hkl := hMT.set c hc
    rw [hk1] at hkl
    have p3 := hMT.row.cell (j := 4 + c * 6 + 3) (by omega)
    obtain ⟨q, hq, hqs⟩ := hMT.srv c hc
    obtain rfl := hqs s HSR.out
    rw [hq] at p3
    have p4 := hMT.row.cell (j := 4 + c * 6 + 4) (by omega)
    rw [hk1] at p4
    have t1 := xr.cell (j := 1) (by simp)
    have t2 := xr.cell (j := 2) (by simp)
    simp only [gCZ, gCS] at t1 t2
    have hXT := xr.lt
    have hPT := hMT.row.lt
    have HMT := hD hMT
    have HTTb := hD hTT
    have HBT := hD hBT
    have HL1 := hD hlT1
    have HL2 := hD hlT2
    have HT2 := hD t2
    have HWA := hD (fun (wc : World) (hwc : Below WT.heap.size WT wc) => without_any _ _ (m.e.of c).1 T.set wc (hkl.1.step' hwc) (hlT1.1.step' hwc))
    clear hMT hTT hBT hlT1 hlT2 hkl hq hqs xr hk1 t2
    go_wp2_with fail
    refine wp_region_z 12 (fun wx => wx.cell? ⟨P, 4 + c * 6 + 3, none⟩ = some (.int .i64 s) ∧ wx.cell? ⟨P, 4 + c * 6 + 4, none⟩ = some (.slice K1 (m.e.of c).1.length g1) ∧ wx.cell? ⟨X, 1, none⟩ = some (.slice F1 T.set.length f1)) (by kernel_rfl) (show WT.drew.cell? ⟨P, 4 + c * 6 + 3, none⟩ = some (.int .i64 s) ∧ WT.drew.cell? ⟨P, 4 + c * 6 + 4, none⟩ = some (.slice K1 (m.e.of c).1.length g1) ∧ WT.drew.cell? ⟨X, 1, none⟩ = some (.slice F1 T.set.length f1) from ⟨p3, p4, t1⟩) (fun hS => ?_)
    refine tkZ 0 ?vb1d0 rfl ?yb1d0 hS ?rb1d0
    case yb1d0 => (intro w hSw; (try dsimp only at hSw); (try simp only [gTA, gCZ, gCS]); go_simp; try with_reducible rfl)
    (try simp only [gTA, gCZ, gCS, Act.put, sTA, sCZ, sCS])
    refine tkY 1 [2, 3, 4] ?vb1d1 rfl ?yb1d1 hS ?rb1d1
    case yb1d1 => (intro w hSw; (try dsimp only at hSw); (try simp only [gTA, gCZ, gCS]); go_simp; try with_reducible rfl)
    (try simp only [gTA, gCZ, gCS, Act.put, sTA, sCZ, sCS])
    refine tkY 2 [3, 4] ?vb1d2 rfl ?yb1d2 hS ?rb1d2
    case yb1d2 => (intro w hSw; (try dsimp only at hSw); (try simp only [gTA, gCZ, gCS]); go_simp; try with_reducible rfl)
    (try simp only [gTA, gCZ, gCS, Act.put, sTA, sCZ, sCS])
    refine tkY 3 [4] ?vb1d3 rfl ?yb1d3 hS ?rb1d3
    case yb1d3 => (intro w hSw; (try dsimp only at hSw); (try simp only [gTA, gCZ, gCS]); go_simp; try with_reducible rfl)
    (try simp only [gTA, gCZ, gCS, Act.put, sTA, sCZ, sCS])
    refine tkZ 4 ?vb1d4 rfl ?yb1d4 hS ?rb1d4
    case yb1d4 => (intro w hSw; (try dsimp only at hSw); (try simp only [gTA, gCZ, gCS]); go_simp; try with_reducible rfl)
    (try simp only [gTA, gCZ, gCS, Act.put, sTA, sCZ, sCS])
    refine tkY 5 [6, 7, 8, 11] ?vb1d5 rfl ?yb1d5 hS ?rb1d5
    case yb1d5 => (intro w hSw; (try dsimp only at hSw); (try simp only [gTA, gCZ, gCS]); go_simp; try with_reducible rfl)
    (try simp only [gTA, gCZ, gCS, Act.put, sTA, sCZ, sCS])
    refine tkY 6 [7, 8, 11] ?vb1d6 rfl ?yb1d6 hS ?rb1d6
    case yb1d6 => (intro w hSw; (try dsimp only at hSw); (try simp only [gTA, gCZ, gCS]); go_simp; try with_reducible rfl)
    (try simp only [gTA, gCZ, gCS, Act.put, sTA, sCZ, sCS])
    refine tkY 7 [8, 11] ?vb1d7 rfl ?yb1d7 hS ?rb1d7
    case yb1d7 => (intro w hSw; (try dsimp only at hSw); (try simp only [gTA, gCZ, gCS]); go_simp; try with_reducible rfl)
    (try simp only [gTA, gCZ, gCS, Act.put, sTA, sCZ, sCS])
    refine tkY 8 [11] ?vb1d8 rfl ?yb1d8 hS ?rb1d8
    case yb1d8 => (intro w hSw; (try dsimp only at hSw); (try simp only [gTA, gCZ, gCS]); go_simp; try with_reducible rfl)
    (try simp only [gTA, gCZ, gCS, Act.put, sTA, sCZ, sCS])
    refine tkY 9 [10, 11] ?vb1d9 rfl ?yb1d9 hS ?rb1d9
    case yb1d9 => (intro w hSw; (try dsimp only at hSw); (try simp only [gTA, gCZ, gCS]); go_simp; try with_reducible rfl)
    (try simp only [gTA, gCZ, gCS, Act.put, sTA, sCZ, sCS])
    refine tkY 10 [11] ?vb1d10 rfl ?yb1d10 hS ?rb1d10
    case yb1d10 => (intro w hSw; (try dsimp only at hSw); (try simp only [gTA, gCZ, gCS]); go_simp; try with_reducible rfl)
    (try simp only [gTA, gCZ, gCS, Act.put, sTA, sCZ, sCS])
    refine wpAnyZ_one (i := 11) rfl rfl (by kernel_rfl) (fun K hK => ?_)
    (try simp only [gTA, gCZ, gCS])
    go_simp
    refine (HWA.out _ (Below.refl _ _).drew).mono ?_
    rintro e w7 ⟨u7, rfl, hlu, hiu, hb7⟩
    obtain ⟨Au, cu, hu, _⟩ := hlu.form
    have kb := bel_add' (Below.refl WT.heap.size WT).drew hb7 (nL _)
    have HU := hD (And.intro hlu (hiu.mono (Q := fun b => b ≠ P) (fun b hb => by have : WT.heap.size ≤ b := hb; omega)))
    subst hu
    clear hb7 hlu hiu
    go_simp
    have hS2 := (show w7.cell? ⟨P, 4 + c * 6 + 3, none⟩ = some (.int .i64 s) ∧ w7.cell? ⟨P, 4 + c * 6 + 4, none⟩ = some (.slice K1 (m.e.of c).1.length g1) ∧ w7.cell? ⟨X, 1, none⟩ = some (.slice F1 T.set.length f1) from ⟨(kb.cell (p := ⟨P, 4 + c * 6 + 3, none⟩) hPT).trans p3, (kb.cell (p := ⟨P, 4 + c * 6 + 4, none⟩) hPT).trans p4, (kb.cell (p := ⟨X, 1, none⟩) hXT).trans t1⟩)
    refine hK.out _ _ hS2 ?_
    clear hK K hS
    have hS := hS2
    clear hS2
    (try simp only [gTA, gCZ, gCS, Act.put, sTA, sCZ, sCS])
    refine wpAnyZ_last rfl rfl (by kernel_rfl) (by kernel_rfl) (fun K hK => ?_)
    (try simp only [gTA, gCZ, gCS])
    go_simp
    refine (store_any w7 (HMT.out.below kb) (HTTb.out.below (kb.mono (by omega))) HOK5.out s HL5.out 9 _ _ HU.out.1 HU.out.2 (fun q hq => HP1.out q (without_mem.1 hq).1)).mono ?_
    rintro e w8 ⟨⟨f8, rfl, hM8⟩, hW8, hn8, hB8, hO8⟩
    go_simp
    refine hK.out _ _ ?_
    clear hK K
    (try simp only [gTA, gCZ, gCS, Act.put, sTA, sCZ, sCS])
    clear hS
    have hT8 := HTTb.out.below ((kb.mono (by omega)).trans hB8)
    have hB8' := HBT.out.trans ((kb.mono (by omega)).trans hB8)
    have hO8' := (Only.below (P := P) kb).trans hO8
    have x2 := (World.cell?_of_block (a := ⟨X, 2, none⟩) (hO8'.2 X hXT (Ne.symm hPX))).trans HT2.out
    have hX8 : X < w8.heap.size := Nat.lt_of_lt_of_le hXT hO8'.1
    have hl8 := hO8'.lst HL2.out.1 (HL2.out.2.mono (fun b hb e => hb 0 (by rw [e]; exact HMT.out.p0)))
    obtain ⟨K2, g2, hk2, _⟩ := (hM8.prep c hc).1.form
    have hkl := hM8.prep c hc
    rw [hk2] at hkl
    have p3 := hM8.row.cell (j := 4 + c * 6 + 3) (by omega)
    obtain ⟨q, hq, hqs⟩ := hM8.srv c hc
    obtain rfl := hqs s HSR.out
    rw [hq] at p3
    have p5 := hM8.row.cell (j := 4 + c * 6 + 5) (by omega)
    rw [hk2] at p5
    have hP8 := hM8.row.lt
    have HM8 := hD hM8
    have HT8 := hD hT8
    have HB8 := hD hB8'
    have HW8 := hD hW8
    have HN8 := hD hn8
    have HWB := hD (fun (wc : World) (hwc : Below w8.heap.size w8 wc) => without_any _ _ (m.e.of c).2 T.prep wc (hkl.1.step' hwc) (hl8.step' hwc))
    clear kb hM8 hT8 hB8 hB8' hO8 hO8' hW8 hn8 hkl hl8 hq hqs hk2 HMT HTTb HBT HL1 HL2 HT2 HWA HU t1 p4 hPT hXT
    go_wp2_with fail
    refine wp_region_z 12 (fun wx => wx.cell? ⟨P, 4 + c * 6 + 3, none⟩ = some (.int .i64 s) ∧ wx.cell? ⟨P, 4 + c * 6 + 5, none⟩ = some (.slice K2 (m.e.of c).2.length g2) ∧ wx.cell? ⟨X, 2, none⟩ = some (.slice F2 T.prep.length f2)) (by kernel_rfl) (show w8.drew.cell? ⟨P, 4 + c * 6 + 3, none⟩ = some (.int .i64 s) ∧ w8.drew.cell? ⟨P, 4 + c * 6 + 5, none⟩ = some (.slice K2 (m.e.of c).2.length g2) ∧ w8.drew.cell? ⟨X, 2, none⟩ = some (.slice F2 T.prep.length f2) from ⟨p3, p5, x2⟩) (fun hS => ?_)
    refine tkZ 0 ?vb1e0 rfl ?yb1e0 hS ?rb1e0
    case yb1e0 => (intro w hSw; (try dsimp only at hSw); (try simp only [gTA, gCZ, gCS]); go_simp; try with_reducible rfl)
    (try simp only [gTA, gCZ, gCS, Act.put, sTA, sCZ, sCS])
    refine tkY 1 [2, 3, 4] ?vb1e1 rfl ?yb1e1 hS ?rb1e1
    case yb1e1 => (intro w hSw; (try dsimp only at hSw); (try simp only [gTA, gCZ, gCS]); go_simp; try with_reducible rfl)
    (try simp only [gTA, gCZ, gCS, Act.put, sTA, sCZ, sCS])
    refine tkY 2 [3, 4] ?vb1e2 rfl ?yb1e2 hS ?rb1e2
    case yb1e2 => (intro w hSw; (try dsimp only at hSw); (try simp only [gTA, gCZ, gCS]); go_simp; try with_reducible rfl)
    (try simp only [gTA, gCZ, gCS, Act.put, sTA, sCZ, sCS])
    refine tkY 3 [4] ?vb1e3 rfl ?yb1e3 hS ?rb1e3
    case yb1e3 => (intro w hSw; (try dsimp only at hSw); (try simp only [gTA, gCZ, gCS]); go_simp; try with_reducible rfl)
    (try simp only [gTA, gCZ, gCS, Act.put, sTA, sCZ, sCS])
    refine tkZ 4 ?vb1e4 rfl ?yb1e4 hS ?rb1e4
    case yb1e4 => (intro w hSw; (try dsimp only at hSw); (try simp only [gTA, gCZ, gCS]); go_simp; try with_reducible rfl)
    (try simp only [gTA, gCZ, gCS, Act.put, sTA, sCZ, sCS])
    refine tkY 5 [6, 7, 8, 11] ?vb1e5 rfl ?yb1e5 hS ?rb1e5
    case yb1e5 => (intro w hSw; (try dsimp only at hSw); (try simp only [gTA, gCZ, gCS]); go_simp; try with_reducible rfl)
    (try simp only [gTA, gCZ, gCS, Act.put, sTA, sCZ, sCS])
    refine tkY 6 [7, 8, 11] ?vb1e6 rfl ?yb1e6 hS ?rb1e6
    case yb1e6 => (intro w hSw; (try dsimp only at hSw); (try simp only [gTA, gCZ, gCS]); go_simp; try with_reducible rfl)
    (try simp only [gTA, gCZ, gCS, Act.put, sTA, sCZ, sCS])
    refine tkY 7 [8, 11] ?vb1e7 rfl ?yb1e7 hS ?rb1e7
    case yb1e7 => (intro w hSw; (try dsimp only at hSw); (try simp only [gTA, gCZ, gCS]); go_simp; try with_reducible rfl)
    (try simp only [gTA, gCZ, gCS, Act.put, sTA, sCZ, sCS])
    refine tkY 8 [11] ?vb1e8 rfl ?yb1e8 hS ?rb1e8
    case yb1e8 => (intro w hSw; (try dsimp only at hSw); (try simp only [gTA, gCZ, gCS]); go_simp; try with_reducible rfl)
    (try simp only [gTA, gCZ, gCS, Act.put, sTA, sCZ, sCS])
    refine tkY 9 [10, 11] ?vb1e9 rfl ?yb1e9 hS ?rb1e9
    case yb1e9 => (intro w hSw; (try dsimp only at hSw); (try simp only [gTA, gCZ, gCS]); go_simp; try with_reducible rfl)
    (try simp only [gTA, gCZ, gCS, Act.put, sTA, sCZ, sCS])
    refine tkY 10 [11] ?vb1e10 rfl ?yb1e10 hS ?rb1e10
    case yb1e10 => (intro w hSw; (try dsimp only at hSw); (try simp only [gTA, gCZ, gCS]); go_simp; try with_reducible rfl)
    (try simp only [gTA, gCZ, gCS, Act.put, sTA, sCZ, sCS])
    refine wpAnyZ_one (i := 11) rfl rfl (by kernel_rfl) (fun K hK => ?_)
    (try simp only [gTA, gCZ, gCS])
    go_simp
    refine (HWB.out _ (Below.refl _ _).drew).mono ?_
    rintro e w9 ⟨u9, rfl, hlu, hiu, hb9⟩
    obtain ⟨Au, cu, hu, _⟩ := hlu.form
    have kb := bel_add' (Below.refl w8.heap.size w8).drew hb9 (nL _)
    have HU := hD (And.intro hlu (hiu.mono (Q := fun b => b ≠ P) (fun b hb => by have : w8.heap.size ≤ b := hb; omega)))
    subst hu
    clear hb9 hlu hiu
    go_simp
    have hS2 := (show w9.cell? ⟨P, 4 + c * 6 + 3, none⟩ = some (.int .i64 s) ∧ w9.cell? ⟨P, 4 + c * 6 + 5, none⟩ = some (.slice K2 (m.e.of c).2.length g2) ∧ w9.cell? ⟨X, 2, none⟩ = some (.slice F2 T.prep.length f2) from ⟨(kb.cell (p := ⟨P, 4 + c * 6 + 3, none⟩) hP8).trans p3, (kb.cell (p := ⟨P, 4 + c * 6 + 5, none⟩) hP8).trans p5, (kb.cell (p := ⟨X, 2, none⟩) hX8).trans x2⟩)
    refine hK.out _ _ hS2 ?_
    clear hK K hS
    have hS := hS2
    clear hS2
    (try simp only [gTA, gCZ, gCS, Act.put, sTA, sCZ, sCS])
    refine wpAnyZ_last rfl rfl (by kernel_rfl) (by kernel_rfl) (fun K hK => ?_)
    (try simp only [gTA, gCZ, gCS])
    go_simp
    refine (store_any w9 (HM8.out.below kb) (HT8.out.below (kb.mono (by omega))) HW8.out s (by show s < (doW V s 9 _).ss.length; rw [HN8.out]; exact HL5.out) 11 _ _ HU.out.1 HU.out.2 (fun q hq => HP2.out q (without_mem.1 hq).1)).mono ?_
    rintro e wA ⟨⟨fA, rfl, hMA⟩, _, _, hBA, hOA⟩
    go_simp
    refine hK.out _ _ ?_
    clear hK K
    (try simp only [gTA, gCZ, gCS, Act.put, sTA, sCZ, sCS])
    have HRW : restoreW m.e.w s (m.e.of c) = doW (doW V s 9 (without (m.e.of c).1 T.set)) s 11 (without (m.e.of c).2 T.prep) := by
     unfold restoreW
     simp only [HS.out]
     rw [if_pos HOR.out]
     have hv : (doM m.e.w s 4 ⟨#[]⟩ ⟨#[]⟩).1 = V := HV.out
     rw [hv, HTT.out]
    clear hS
    have HFF := hD (And.intro hMA (HB8.out.trans ((kb.mono (by omega)).trans hBA)))
    clear hMA hBA hOA kb HM8 HT8 HB8 HW8 HN8 HWB HU p3 p5 x2
    go_wp2
    go_end0
    try rw [HRW]
    exact ⟨_, _, rfl, HFF.out.1, HFF.out.2⟩
 ·as_aux_lemma =>
   obtain ⟨nA, hA⟩ : ∃ n, (without S.set (m.e.of c).1).length = n := ⟨_, rfl⟩
   have hpos : 0 < nA := by omega
   have hd : decide (0 < (nA : Int)) = true := decide_eq_true (by omega)
   have HOR := hD (show (without S.set (m.e.of c).1).length > 0 ∨ (without S.prep (m.e.of c).2).length > 0 by omega)
   refine wp_region_z 19 (fun wx => wx.cell? ⟨X, 1, none⟩ = some (.slice E1 S.set.length e1) ∧ wx.cell? ⟨X, 2, none⟩ = some (.slice E2 S.prep.length e2) ∧ wx.cell? ⟨P, 4 + c * 6 + 4, none⟩ = some (.slice K1 (m.e.of c).1.length g1) ∧ wx.cell? ⟨P, 4 + c * 6 + 5, none⟩ = some (.slice K2 (m.e.of c).2.length g2)) (by kernel_rfl) (show W1.drew.cell? ⟨X, 1, none⟩ = some (.slice E1 S.set.length e1) ∧ W1.drew.cell? ⟨X, 2, none⟩ = some (.slice E2 S.prep.length e2) ∧ W1.drew.cell? ⟨P, 4 + c * 6 + 4, none⟩ = some (.slice K1 (m.e.of c).1.length g1) ∧ W1.drew.cell? ⟨P, 4 + c * 6 + 5, none⟩ = some (.slice K2 (m.e.of c).2.length g2) from ⟨t1, t2, p4, p5⟩) (fun hS => ?_)
   refine tkY 0 [1, 6, 9] ?va0 rfl ?ya0 hS ?ra0
   case ya0 => (intro w hSw; (try dsimp only at hSw); (try simp only [gTA, gCZ, gCS]); go_simp; try with_reducible rfl)
   (try simp only [gTA, gCZ, gCS, Act.put, sTA, sCZ, sCS])
   refine tkY 1 [6, 9] ?va1 rfl ?ya1 hS ?ra1
   case ya1 => (intro w hSw; (try dsimp only at hSw); (try simp only [gTA, gCZ, gCS]); go_simp; try with_reducible rfl)
   (try simp only [gTA, gCZ, gCS, Act.put, sTA, sCZ, sCS])
   refine tkY 2 [3, 4, 5, 6, 9] ?va2 rfl ?ya2 hS ?ra2
   case ya2 => (intro w hSw; (try dsimp only at hSw); (try simp only [gTA, gCZ, gCS]); go_simp; try with_reducible rfl)
   (try simp only [gTA, gCZ, gCS, Act.put, sTA, sCZ, sCS])
   refine tkY 3 [4, 5, 6, 9] ?va3 rfl ?ya3 hS ?ra3
   case ya3 => (intro w hSw; (try dsimp only at hSw); (try simp only [gTA, gCZ, gCS]); go_simp; try with_reducible rfl)
   (try simp only [gTA, gCZ, gCS, Act.put, sTA, sCZ, sCS])
   refine tkY 4 [5, 6, 9] ?va4 rfl ?ya4 hS ?ra4
   case ya4 => (intro w hSw; (try dsimp only at hSw); (try simp only [gTA, gCZ, gCS]); go_simp; try with_reducible rfl)
   (try simp only [gTA, gCZ, gCS, Act.put, sTA, sCZ, sCS])
   refine tkY 5 [6, 9] ?va5 rfl ?ya5 hS ?ra5
   case ya5 => (intro w hSw; (try dsimp only at hSw); (try simp only [gTA, gCZ, gCS]); go_simp; try with_reducible rfl)
   (try simp only [gTA, gCZ, gCS, Act.put, sTA, sCZ, sCS])
   refine wpAnyZ_one (i := 6) rfl rfl (by kernel_rfl) (fun K hK => ?_)
   (try simp only [gTA, gCZ, gCS])
   go_simp
   refine (HWA.out _ (Below.refl _ _).drew).mono ?_
   rintro e w3 ⟨u3, rfl, hlu, hiu, hb3⟩
   obtain ⟨Au, cu, hu, _⟩ := hlu.form
   rw [hA] at hu
   subst hu
   have kb := bel_add' (Below.refl W1.heap.size W1).drew hb3 (nL _)
   clear hb3 hlu hiu
   go_simp
   have hS2 := (show w3.cell? ⟨X, 1, none⟩ = some (.slice E1 S.set.length e1) ∧ w3.cell? ⟨X, 2, none⟩ = some (.slice E2 S.prep.length e2) ∧ w3.cell? ⟨P, 4 + c * 6 + 4, none⟩ = some (.slice K1 (m.e.of c).1.length g1) ∧ w3.cell? ⟨P, 4 + c * 6 + 5, none⟩ = some (.slice K2 (m.e.of c).2.length g2) from ⟨(kb.cell (p := ⟨X, 1, none⟩) hXl).trans t1, (kb.cell (p := ⟨X, 2, none⟩) hXl).trans t2, (kb.cell (p := ⟨P, 4 + c * 6 + 4, none⟩) hP1).trans p4, (kb.cell (p := ⟨P, 4 + c * 6 + 5, none⟩) hP1).trans p5⟩)
   refine hK.out _ _ hS2 ?_
   clear hK K hS
   have hS := hS2
   clear hS2
   (try simp only [gTA, gCZ, gCS, Act.put, sTA, sCZ, sCS])
   refine tkY 7 [8, 9] ?va7 rfl ?ya7 hS ?ra7
   case ya7 => (intro w hSw; (try dsimp only at hSw); (try simp only [gTA, gCZ, gCS]); go_simp; try with_reducible rfl)
   (try simp only [gTA, gCZ, gCS, Act.put, sTA, sCZ, sCS])
   refine tkY 8 [9] ?va8 rfl ?ya8 hS ?ra8
   case ya8 => (intro w hSw; (try dsimp only at hSw); (try simp only [gTA, gCZ, gCS]); go_simp; try with_reducible rfl)
   (try simp only [gTA, gCZ, gCS, Act.put, sTA, sCZ, sCS])
   refine tkZ 9 ?va9 rfl ?ya9 hS ?ra9
   case ya9 => (intro w hSw; (try dsimp only at hSw); (try simp only [gTA, gCZ, gCS]); go_simp; try with_reducible rfl)
   (try simp only [gTA, gCZ, gCS, Act.put, sTA, sCZ, sCS])
   refine wpAnyZ_take2 (i := 10) [11, 16, 17, 18] (v := undef) rfl (by kernel_rfl) (by kernel_rfl) (by kernel_rfl) (by kernel_rfl) (fun _ _ _ h => h) (Or.inr ⟨by rfl, rfl⟩) hS ?_
   (try simp only [gTA, gCZ, gCS, Act.put, sTA, sCZ, sCS])
   refine wpAnyZ_take2 (i := 11) [16, 17, 18] (v := undef) rfl (by kernel_rfl) (by kernel_rfl) (by kernel_rfl) (by kernel_rfl) (fun _ _ _ h => h) (Or.inr ⟨by rfl, rfl⟩) hS ?_
   (try simp only [gTA, gCZ, gCS, Act.put, sTA, sCZ, sCS])
   refine wpAnyZ_take2 (i := 12) [13, 14, 15, 16, 17, 18] (v := undef) rfl (by kernel_rfl) (by kernel_rfl) (by kernel_rfl) (by kernel_rfl) (fun _ _ _ h => h) (Or.inr ⟨by rfl, rfl⟩) hS ?_
   (try simp only [gTA, gCZ, gCS, Act.put, sTA, sCZ, sCS])
   refine wpAnyZ_take2 (i := 13) [14, 15, 16, 17, 18] (v := undef) rfl (by kernel_rfl) (by kernel_rfl) (by kernel_rfl) (by kernel_rfl) (fun _ _ _ h => h) (Or.inr ⟨by rfl, rfl⟩) hS ?_
   (try simp only [gTA, gCZ, gCS, Act.put, sTA, sCZ, sCS])
   refine wpAnyZ_take2 (i := 14) [15, 16, 17, 18] (v := undef) rfl (by kernel_rfl) (by kernel_rfl) (by kernel_rfl) (by kernel_rfl) (fun _ _ _ h => h) (Or.inr ⟨by rfl, rfl⟩) hS ?_
   (try simp only [gTA, gCZ, gCS, Act.put, sTA, sCZ, sCS])
   refine wpAnyZ_take2 (i := 15) [16, 17, 18] (v := undef) rfl (by kernel_rfl) (by kernel_rfl) (by kernel_rfl) (by kernel_rfl) (fun _ _ _ h => h) (Or.inr ⟨by rfl, rfl⟩) hS ?_
   (try simp only [gTA, gCZ, gCS, Act.put, sTA, sCZ, sCS])
   refine wpAnyZ_take2 (i := 16) [17, 18] (v := undef) rfl (by kernel_rfl) (by kernel_rfl) (by kernel_rfl) (by kernel_rfl) (fun _ _ _ h => h) (Or.inr ⟨by rfl, rfl⟩) hS ?_
   (try simp only [gTA, gCZ, gCS, Act.put, sTA, sCZ, sCS])
   refine wpAnyZ_take2 (i := 17) [18] (v := undef) rfl (by kernel_rfl) (by kernel_rfl) (by kernel_rfl) (by kernel_rfl) (fun _ _ _ h => h) (Or.inr ⟨by rfl, rfl⟩) hS ?_
   (try simp only [gTA, gCZ, gCS, Act.put, sTA, sCZ, sCS])
   refine wpAnyZ_take (i := 18) (v := undef) rfl (by kernel_rfl) (by kernel_rfl) (by kernel_rfl) (by kernel_rfl) (fun _ _ _ h => h) (Or.inr ⟨by rfl, rfl⟩) hS ?_
   (try simp only [gTA, gCZ, gCS, Act.put, sTA, sCZ, sCS])
   refine wpAnyZ_last rfl rfl (by kernel_rfl) (by kernel_rfl) (fun K hK => ?_)
   (try simp only [gTA, gCZ, gCS])
   go_simp
   refine hK.out _ _ ?_
   clear hK K
   (try simp only [gTA, gCZ, gCS, Act.put, sTA, sCZ, sCS])
   clear hS
   have KB := hD kb
   have hz3 := kb.size
   clear kb
   skip
   have b3 := (KB.out.cell (p := ⟨P, 4 + c * 6 + 3, none⟩) hP1).trans p3
   have hPw : P < w3.heap.size := by omega
   have HMw := hD (HM1.out.below KB.out)
   have HTw := hD (HT.out.below (HBA.out.trans (KB.out.mono (by omega))))
   have HXw := hD (HX.out.below KB.out hXl)
   have hXw : X < w3.heap.size := by omega
   have HBw := hD (HBA.out.trans (KB.out.mono (by omega)))
   clear t1 t2 p3 p4 p5 HWA HWB HX KB HM1 HLA HKL
   go_wp2_with fail
   refine (doP_any w3 HMw.out HTw.out HOK.out s HLT.out ⟨4, ⟨#[]⟩, ⟨#[]⟩⟩ (small_ok (by decide) (by decide))).mono ?_
   rintro e w5 ⟨f5, rfl, hM5, hB5, hO5⟩
   have hX5 := HXw.out.same (hO5.2 X hXw (Ne.symm hPX))
   have HB5 := hD (HBw.out.trans hB5)
   have HT5 := hD (HTw.out.below hB5)
   have hz5 := hO5.1
   have hok5 := doR_ok HOK.out HLT.out (r := ⟨4, ⟨#[]⟩, ⟨#[]⟩⟩) (small_ok (by decide) (by decide))
   clear hB5 hO5 HMw HTw HXw HBw b3
   generalize hW : (doR m.e.w s ⟨4, ⟨#[]⟩, ⟨#[]⟩⟩).1 = V at *
   have HV := hD hW
   clear hW
   have hl5 : s < V.ss.length := by rw [hok5.2]; exact HLT.out
   have HL5 := hD hl5
   have HOK5 := hD hok5.1
   have hsI : (s : Int) < (V.ss.length : Int) := by omega
   obtain ⟨gB, oB, cB, hf2, hFB, hgB, hcs⟩ := hM5.wld.at (show 0 < V.ss.length by omega)
   obtain ⟨v1, v2, v3, v4, sB, i1, i2, i3, i4⟩ := hcs s hl5
   have a2 := hM5.row.cell (j := 2) (by omega)
   rw [hf2] at a2
   have a3 := hM5.row.cell (j := 4 + c * 6 + 3) (by omega)
   obtain ⟨q, hq, hqs⟩ := hM5.srv c hc
   obtain rfl := hqs s HSR.out
   rw [hq] at a3
   obtain ⟨q0, q1, q2, q3, q4, l1, l2, l3, l4⟩ := sB
   obtain ⟨F1, f1, rfl, hE1⟩ := l1.form
   obtain ⟨F2, f2, rfl, hE2⟩ := l2.form
   obtain ⟨F3, f3, rfl, hE3⟩ := l3.form
   obtain ⟨F4, f4, rfl, hE4⟩ := l4.form
   have hbd := hM5.wld.wld.sess.bytes
   have hat := at_lt hl5
   simp only [← hat] at q0 q1 q2 q3 q4 l1 l2 i1 i2
   have HLL := hD (And.intro (And.intro l1 i1) (And.intro l2 i2))
   obtain ⟨T, HTT⟩ : ∃ T, Hid (V.at s = T) := ⟨_, hD rfl⟩
   simp only [HTT.out] at q0 q1 q2 q3 q4 HLL
   have HM5 := hD hM5
   have hP5 := hM5.row.lt
   have hgX : gB ≠ X := fun e => hFB 16 (by unfold upd; rw [if_pos rfl, e])
   have HXX := hD hX5
   have hX5l := hX5.lt
   have y0 := hX5.cell (j := 0) (by simp)
   have y1 := hX5.cell (j := 1) (by simp)
   have y2 := hX5.cell (j := 2) (by simp)
   have y3 := hX5.cell (j := 3) (by simp)
   have y4 := hX5.cell (j := 4) (by simp)
   simp only [gCZ, gCS] at y0 y1 y2 y3 y4
   have z0 := hX5.frozen 0
   have z1 := hX5.frozen 1
   have z2 := hX5.frozen 2
   have z3 := hX5.frozen 3
   have z4 := hX5.frozen 4
   clear hM5 hok5 hf2 hFB hcs l1 l2 l3 l4 i1 i2 i3 i4 hE1 hE2 hE3 hE4 hat hq hqs hX5
   obtain ⟨n5, HN5⟩ : ∃ n, Hid (V.ss.length = n) := ⟨_, hD rfl⟩
   rw [HN5.out] at a2 hbd hsI hl5
   go_wp2_with fail
   refine wp_region_z 11 (fun wx => wx.cell? ⟨P, 2, none⟩ = some (.slice (some ⟨gB, oB, none⟩) n5 cB) ∧ wx.cell? ⟨P, 4 + c * 6 + 3, none⟩ = some (.int .i64 s) ∧ wx.cell? ⟨gB, oB + s * 5, none⟩ = some (.int .i64 T.st) ∧ wx.cell? ⟨gB, oB + s * 5 + 1, none⟩ = some (.slice F1 T.set.length f1) ∧ wx.cell? ⟨gB, oB + s * 5 + 2, none⟩ = some (.slice F2 T.prep.length f2) ∧ wx.cell? ⟨gB, oB + s * 5 + 3, none⟩ = some (.slice F3 T.sav.length f3) ∧ wx.cell? ⟨gB, oB + s * 5 + 4, none⟩ = some (.slice F4 T.wr.length f4)) (by kernel_rfl) (show w5.drew.cell? ⟨P, 2, none⟩ = some (.slice (some ⟨gB, oB, none⟩) n5 cB) ∧ w5.drew.cell? ⟨P, 4 + c * 6 + 3, none⟩ = some (.int .i64 s) ∧ w5.drew.cell? ⟨gB, oB + s * 5, none⟩ = some (.int .i64 T.st) ∧ w5.drew.cell? ⟨gB, oB + s * 5 + 1, none⟩ = some (.slice F1 T.set.length f1) ∧ w5.drew.cell? ⟨gB, oB + s * 5 + 2, none⟩ = some (.slice F2 T.prep.length f2) ∧ w5.drew.cell? ⟨gB, oB + s * 5 + 3, none⟩ = some (.slice F3 T.sav.length f3) ∧ w5.drew.cell? ⟨gB, oB + s * 5 + 4, none⟩ = some (.slice F4 T.wr.length f4) from ⟨a2, a3, q0, q1, q2, q3, q4⟩) (fun hS => ?_)
   refine tkZ 0 ?var0 rfl ?yar0 hS ?rar0
   case yar0 => (intro w hSw; (try dsimp only at hSw); (try simp only [gTA, gCZ, gCS]); go_simp; try with_reducible rfl)
   (try simp only [gTA, gCZ, gCS, Act.put, sTA, sCZ, sCS])
   refine tkZ 1 ?var1 rfl ?yar1 hS ?rar1
   case yar1 => (intro w hSw; (try dsimp only at hSw); (try simp only [gTA, gCZ, gCS]); go_simp; try with_reducible rfl)
   (try simp only [gTA, gCZ, gCS, Act.put, sTA, sCZ, sCS])
   refine tkZ 2 ?var2 rfl ?yar2 hS ?rar2
   case yar2 => (intro w hSw; (try dsimp only at hSw); (try simp only [gTA, gCZ, gCS]); go_simp; try with_reducible rfl)
   (try simp only [gTA, gCZ, gCS, Act.put, sTA, sCZ, sCS])
   refine tkZ 3 ?var3 rfl ?yar3 hS ?rar3
   case yar3 => (intro w hSw; (try dsimp only at hSw); (try simp only [gTA, gCZ, gCS]); go_simp; try with_reducible rfl)
   (try simp only [gTA, gCZ, gCS, Act.put, sTA, sCZ, sCS])
   refine tkZ 4 ?var4 rfl ?yar4 hS ?rar4
   case yar4 => (intro w hSw; (try dsimp only at hSw); (try simp only [gTA, gCZ, gCS]); go_simp; try with_reducible rfl)
   (try simp only [gTA, gCZ, gCS, Act.put, sTA, sCZ, sCS])
   refine tkZ 5 ?var5 rfl ?yar5 hS ?rar5
   case yar5 => (intro w hSw; (try dsimp only at hSw); (try simp only [gTA, gCZ, gCS]); go_simp; try with_reducible rfl)
   (try simp only [gTA, gCZ, gCS, Act.put, sTA, sCZ, sCS])
   refine tkZ 6 ?var6 rfl ?yar6 hS ?rar6
   case yar6 => (intro w hSw; (try dsimp only at hSw); (try simp only [gTA, gCZ, gCS]); go_simp; try with_reducible rfl)
   (try simp only [gTA, gCZ, gCS, Act.put, sTA, sCZ, sCS])
   refine tkZ 7 ?var7 rfl ?yar7 hS ?rar7
   case yar7 => (intro w hSw; (try dsimp only at hSw); (try simp only [gTA, gCZ, gCS]); go_simp; try with_reducible rfl)
   (try simp only [gTA, gCZ, gCS, Act.put, sTA, sCZ, sCS])
   refine tkZ 8 ?var8 rfl ?yar8 hS ?rar8
   case yar8 => (intro w hSw; (try dsimp only at hSw); (try simp only [gTA, gCZ, gCS]); go_simp; try with_reducible rfl)
   (try simp only [gTA, gCZ, gCS, Act.put, sTA, sCZ, sCS])
   refine tkZ 9 ?var9 rfl ?yar9 hS ?rar9
   case yar9 => (intro w hSw; (try dsimp only at hSw); (try simp only [gTA, gCZ, gCS]); go_simp; try with_reducible rfl)
   (try simp only [gTA, gCZ, gCS, Act.put, sTA, sCZ, sCS])
   refine tkZ 10 ?var10 rfl ?yar10 hS ?rar10
   case yar10 => (intro w hSw; (try dsimp only at hSw); (try simp only [gTA, gCZ, gCS]); go_simp; try with_reducible rfl)
   (try simp only [gTA, gCZ, gCS, Act.put, sTA, sCZ, sCS])
   refine wpAnyZ_last rfl rfl (by kernel_rfl) (by kernel_rfl) (fun K hK => ?_)
   (try simp only [gTA, gCZ, gCS])
   go_simp
   refine hK.out _ _ ?_
   clear hK K
   (try simp only [gTA, gCZ, gCS, Act.put, sTA, sCZ, sCS])
   clear hS
   have hMT := (HM5.out.five (.int .i64 T.st) (.slice F1 T.set.length f1) (.slice F2 T.prep.length f2) (.slice F3 T.sav.length f3) (.slice F4 T.wr.length f4)).below (Below.refl _ _).drew
   have hkk : ∀ b, b ≠ X → (((((w5.setCell ⟨X, 0, none⟩ (.int .i64 T.st)).setCell ⟨X, 1, none⟩ (.slice F1 T.set.length f1)).setCell ⟨X, 2, none⟩ (.slice F2 T.prep.length f2)).setCell ⟨X, 3, none⟩ (.slice F3 T.sav.length f3)).setCell ⟨X, 4, none⟩ (.slice F4 T.wr.length f4)).drew.heap[b]? = w5.heap[b]? := fun b hb => by
    show (((((w5.setCell ⟨X, 0, none⟩ (.int .i64 T.st)).setCell ⟨X, 1, none⟩ (.slice F1 T.set.length f1)).setCell ⟨X, 2, none⟩ (.slice F2 T.prep.length f2)).setCell ⟨X, 3, none⟩ (.slice F3 T.sav.length f3)).setCell ⟨X, 4, none⟩ (.slice F4 T.wr.length f4)).heap[b]? = _
    rw [Below.heap_setCell _ _ _ _ hb, Below.heap_setCell _ _ _ _ hb, Below.heap_setCell _ _ _ _ hb, Below.heap_setCell _ _ _ _ hb, Below.heap_setCell _ _ _ _ hb]
   have hzz : (((((w5.setCell ⟨X, 0, none⟩ (.int .i64 T.st)).setCell ⟨X, 1, none⟩ (.slice F1 T.set.length f1)).setCell ⟨X, 2, none⟩ (.slice F2 T.prep.length f2)).setCell ⟨X, 3, none⟩ (.slice F3 T.sav.length f3)).setCell ⟨X, 4, none⟩ (.slice F4 T.wr.length f4)).drew.heap.size = w5.heap.size := by simp [World.setCell, World.drew]
   have hBT : Below base w (((((w5.setCell ⟨X, 0, none⟩ (.int .i64 T.st)).setCell ⟨X, 1, none⟩ (.slice F1 T.set.length f1)).setCell ⟨X, 2, none⟩ (.slice F2 T.prep.length f2)).setCell ⟨X, 3, none⟩ (.slice F3 T.sav.length f3)).setCell ⟨X, 4, none⟩ (.slice F4 T.wr.length f4)).drew := by
    have h0 := HB5.out
    exact ((((((h0.setCell (p := ⟨X, 0, none⟩) hbX (.int .i64 T.st)).setCell (p := ⟨X, 1, none⟩) hbX (.slice F1 T.set.length f1)).setCell (p := ⟨X, 2, none⟩) hbX (.slice F2 T.prep.length f2)).setCell (p := ⟨X, 3, none⟩) hbX (.slice F3 T.sav.length f3)).setCell (p := ⟨X, 4, none⟩) hbX (.slice F4 T.wr.length f4))).drew
   have hTT := HT5.out.below (show Below base w5 (((((w5.setCell ⟨X, 0, none⟩ (.int .i64 T.st)).setCell ⟨X, 1, none⟩ (.slice F1 T.set.length f1)).setCell ⟨X, 2, none⟩ (.slice F2 T.prep.length f2)).setCell ⟨X, 3, none⟩ (.slice F3 T.sav.length f3)).setCell ⟨X, 4, none⟩ (.slice F4 T.wr.length f4)).drew from (((((((Below.refl base w5).setCell (p := ⟨X, 0, none⟩) hbX (.int .i64 T.st)).setCell (p := ⟨X, 1, none⟩) hbX (.slice F1 T.set.length f1)).setCell (p := ⟨X, 2, none⟩) hbX (.slice F2 T.prep.length f2)).setCell (p := ⟨X, 3, none⟩) hbX (.slice F3 T.sav.length f3)).setCell (p := ⟨X, 4, none⟩) hbX (.slice F4 T.wr.length f4))).drew)
   have hlT1 := lst_free HLL.out.1 (Nat.le_of_eq hzz.symm) (fun b hb _ => hkk b (fun e => hb 16 (by unfold upd; rw [if_pos rfl, e])))
   have hlT2 := lst_free HLL.out.2 (Nat.le_of_eq hzz.symm) (fun b hb _ => hkk b (fun e => hb 16 (by unfold upd; rw [if_pos rfl, e])))
   have xr := (HXX.out.put (j := 0) (by simp) (.int .i64 T.st))
   have xr := (xr.put (j := 1) (by simp) (.slice F1 T.set.length f1))
   have xr := (xr.put (j := 2) (by simp) (.slice F2 T.prep.length f2))
   have xr := (xr.put (j := 3) (by simp) (.slice F3 T.sav.length f3))
   have xr := (xr.put (j := 4) (by simp) (.slice F4 T.wr.length f4))
   have xr := xr.drew
   simp only [sCZ, sCS] at xr
   obtain ⟨WT, HWT⟩ : ∃ u, Hid ((((((w5.setCell ⟨X, 0, none⟩ (.int .i64 T.st)).setCell ⟨X, 1, none⟩ (.slice F1 T.set.length f1)).setCell ⟨X, 2, none⟩ (.slice F2 T.prep.length f2)).setCell ⟨X, 3, none⟩ (.slice F3 T.sav.length f3)).setCell ⟨X, 4, none⟩ (.slice F4 T.wr.length f4)).drew = u) := ⟨_, hD rfl⟩
   rw [HWT.out] at hMT hBT hTT hlT1 hlT2 xr hzz ⊢
   clear HWT hkk HLL HM5 HB5 HT5 HXX a2 a3 q0 q1 q2 q3 q4 y0 y1 y2 y3 y4 z0 z1 z2 z3 z4 hbd hsI hgB hgX hzz HN5
   obtain ⟨K1, g1, hk1, _⟩ := (hMT.set c hc).1.form
   have hkl := hMT.set c hc
   rw [hk1] at hkl
   have p3 := hMT.row.cell (j := 4 + c * 6 + 3) (by omega)
   obtain ⟨q, hq, hqs⟩ := hMT.srv c hc
   obtain rfl := hqs s HSR.out
   rw [hq] at p3
   have p4 := hMT.row.cell (j := 4 + c * 6 + 4) (by omega)
   rw [hk1] at p4
   have t1 := xr.cell (j := 1) (by simp)
   have t2 := xr.cell (j := 2) (by simp)
   simp only [gCZ, gCS] at t1 t2
   have hXT := xr.lt
   have hPT := hMT.row.lt
   have HMT := hD hMT
   have HTTb := hD hTT
   have HBT := hD hBT
   have HL1 := hD hlT1
   have HL2 := hD hlT2
   have HT2 := hD t2
   have HWA := hD (fun (wc : World) (hwc : Below WT.heap.size WT wc) => without_any _ _ (m.e.of c).1 T.set wc (hkl.1.step' hwc) (hlT1.1.step' hwc))
   clear hMT hTT hBT hlT1 hlT2 hkl hq hqs xr hk1 t2
   go_wp2_with fail
   refine wp_region_z 12 (fun wx => wx.cell? ⟨P, 4 + c * 6 + 3, none⟩ = some (.int .i64 s) ∧ wx.cell? ⟨P, 4 + c * 6 + 4, none⟩ = some (.slice K1 (m.e.of c).1.length g1) ∧ wx.cell? ⟨X, 1, none⟩ = some (.slice F1 T.set.length f1)) (by kernel_rfl) (show WT.drew.cell? ⟨P, 4 + c * 6 + 3, none⟩ = some (.int .i64 s) ∧ WT.drew.cell? ⟨P, 4 + c * 6 + 4, none⟩ = some (.slice K1 (m.e.of c).1.length g1) ∧ WT.drew.cell? ⟨X, 1, none⟩ = some (.slice F1 T.set.length f1) from ⟨p3, p4, t1⟩) (fun hS => ?_)
   refine tkZ 0 ?vad0 rfl ?yad0 hS ?rad0
   case yad0 => (intro w hSw; (try dsimp only at hSw); (try simp only [gTA, gCZ, gCS]); go_simp; try with_reducible rfl)
   (try simp only [gTA, gCZ, gCS, Act.put, sTA, sCZ, sCS])
   refine tkY 1 [2, 3, 4] ?vad1 rfl ?yad1 hS ?rad1
   case yad1 => (intro w hSw; (try dsimp only at hSw); (try simp only [gTA, gCZ, gCS]); go_simp; try with_reducible rfl)
   (try simp only [gTA, gCZ, gCS, Act.put, sTA, sCZ, sCS])
   refine tkY 2 [3, 4] ?vad2 rfl ?yad2 hS ?rad2
   case yad2 => (intro w hSw; (try dsimp only at hSw); (try simp only [gTA, gCZ, gCS]); go_simp; try with_reducible rfl)
   (try simp only [gTA, gCZ, gCS, Act.put, sTA, sCZ, sCS])
   refine tkY 3 [4] ?vad3 rfl ?yad3 hS ?rad3
   case yad3 => (intro w hSw; (try dsimp only at hSw); (try simp only [gTA, gCZ, gCS]); go_simp; try with_reducible rfl)
   (try simp only [gTA, gCZ, gCS, Act.put, sTA, sCZ, sCS])
   refine tkZ 4 ?vad4 rfl ?yad4 hS ?rad4
   case yad4 => (intro w hSw; (try dsimp only at hSw); (try simp only [gTA, gCZ, gCS]); go_simp; try with_reducible rfl)
   (try simp only [gTA, gCZ, gCS, Act.put, sTA, sCZ, sCS])
   refine tkY 5 [6, 7, 8, 11] ?vad5 rfl ?yad5 hS ?rad5
   case yad5 => (intro w hSw; (try dsimp only at hSw); (try simp only [gTA, gCZ, gCS]); go_simp; try with_reducible rfl)
   (try simp only [gTA, gCZ, gCS, Act.put, sTA, sCZ, sCS])
   refine tkY 6 [7, 8, 11] ?vad6 rfl ?yad6 hS ?rad6
   case yad6 => (intro w hSw; (try dsimp only at hSw); (try simp only [gTA, gCZ, gCS]); go_simp; try with_reducible rfl)
   (try simp only [gTA, gCZ, gCS, Act.put, sTA, sCZ, sCS])
   refine tkY 7 [8, 11] ?vad7 rfl ?yad7 hS ?rad7
   case yad7 => (intro w hSw; (try dsimp only at hSw); (try simp only [gTA, gCZ, gCS]); go_simp; try with_reducible rfl)
   (try simp only [gTA, gCZ, gCS, Act.put, sTA, sCZ, sCS])
   refine tkY 8 [11] ?vad8 rfl ?yad8 hS ?rad8
   case yad8 => (intro w hSw; (try dsimp only at hSw); (try simp only [gTA, gCZ, gCS]); go_simp; try with_reducible rfl)
   (try simp only [gTA, gCZ, gCS, Act.put, sTA, sCZ, sCS])
   refine tkY 9 [10, 11] ?vad9 rfl ?yad9 hS ?rad9
   case yad9 => (intro w hSw; (try dsimp only at hSw); (try simp only [gTA, gCZ, gCS]); go_simp; try with_reducible rfl)
   (try simp only [gTA, gCZ, gCS, Act.put, sTA, sCZ, sCS])
   refine tkY 10 [11] ?vad10 rfl ?yad10 hS ?rad10
   case yad10 => (intro w hSw; (try dsimp only at hSw); (try simp only [gTA, gCZ, gCS]); go_simp; try with_reducible rfl)
   (try simp only [gTA, gCZ, gCS, Act.put, sTA, sCZ, sCS])
   refine wpAnyZ_one (i := 11) rfl rfl (by kernel_rfl) (fun K hK => ?_)
   (try simp only [gTA, gCZ, gCS])
   go_simp
   refine (HWA.out _ (Below.refl _ _).drew).mono ?_
   rintro e w7 ⟨u7, rfl, hlu, hiu, hb7⟩
   obtain ⟨Au, cu, hu, _⟩ := hlu.form
   have kb := bel_add' (Below.refl WT.heap.size WT).drew hb7 (nL _)
   have HU := hD (And.intro hlu (hiu.mono (Q := fun b => b ≠ P) (fun b hb => by have : WT.heap.size ≤ b := hb; omega)))
   subst hu
   clear hb7 hlu hiu
   go_simp
   have hS2 := (show w7.cell? ⟨P, 4 + c * 6 + 3, none⟩ = some (.int .i64 s) ∧ w7.cell? ⟨P, 4 + c * 6 + 4, none⟩ = some (.slice K1 (m.e.of c).1.length g1) ∧ w7.cell? ⟨X, 1, none⟩ = some (.slice F1 T.set.length f1) from ⟨(kb.cell (p := ⟨P, 4 + c * 6 + 3, none⟩) hPT).trans p3, (kb.cell (p := ⟨P, 4 + c * 6 + 4, none⟩) hPT).trans p4, (kb.cell (p := ⟨X, 1, none⟩) hXT).trans t1⟩)
   refine hK.out _ _ hS2 ?_
   clear hK K hS
   have hS := hS2
   clear hS2
   (try simp only [gTA, gCZ, gCS, Act.put, sTA, sCZ, sCS])
   refine wpAnyZ_last rfl rfl (by kernel_rfl) (by kernel_rfl) (fun K hK => ?_)
   (try simp only [gTA, gCZ, gCS])
   go_simp
   refine (store_any w7 (HMT.out.below kb) (HTTb.out.below (kb.mono (by omega))) HOK5.out s HL5.out 9 _ _ HU.out.1 HU.out.2 (fun q hq => HP1.out q (without_mem.1 hq).1)).mono ?_
   rintro e w8 ⟨⟨f8, rfl, hM8⟩, hW8, hn8, hB8, hO8⟩
   go_simp
   refine hK.out _ _ ?_
   clear hK K
   (try simp only [gTA, gCZ, gCS, Act.put, sTA, sCZ, sCS])
   clear hS
   have hT8 := HTTb.out.below ((kb.mono (by omega)).trans hB8)
   have hB8' := HBT.out.trans ((kb.mono (by omega)).trans hB8)
   have hO8' := (Only.below (P := P) kb).trans hO8
   have x2 := (World.cell?_of_block (a := ⟨X, 2, none⟩) (hO8'.2 X hXT (Ne.symm hPX))).trans HT2.out
   have hX8 : X < w8.heap.size := Nat.lt_of_lt_of_le hXT hO8'.1
   have hl8 := hO8'.lst HL2.out.1 (HL2.out.2.mono (fun b hb e => hb 0 (by rw [e]; exact HMT.out.p0)))
   obtain ⟨K2, g2, hk2, _⟩ := (hM8.prep c hc).1.form
   have hkl := hM8.prep c hc
   rw [hk2] at hkl
   have p3 := hM8.row.cell (j := 4 + c * 6 + 3) (by omega)
   obtain ⟨q, hq, hqs⟩ := hM8.srv c hc
   obtain rfl := hqs s HSR.out
   rw [hq] at p3
   have p5 := hM8.row.cell (j := 4 + c * 6 + 5) (by omega)
   rw [hk2] at p5
   have hP8 := hM8.row.lt
   have HM8 := hD hM8
   have HT8 := hD hT8
   have HB8 := hD hB8'
   have HW8 := hD hW8
   have HN8 := hD hn8
   have HWB := hD (fun (wc : World) (hwc : Below w8.heap.size w8 wc) => without_any _ _ (m.e.of c).2 T.prep wc (hkl.1.step' hwc) (hl8.step' hwc))
   clear kb hM8 hT8 hB8 hB8' hO8 hO8' hW8 hn8 hkl hl8 hq hqs hk2 HMT HTTb HBT HL1 HL2 HT2 HWA HU t1 p4 hPT hXT
   go_wp2_with fail
   refine wp_region_z 12 (fun wx => wx.cell? ⟨P, 4 + c * 6 + 3, none⟩ = some (.int .i64 s) ∧ wx.cell? ⟨P, 4 + c * 6 + 5, none⟩ = some (.slice K2 (m.e.of c).2.length g2) ∧ wx.cell? ⟨X, 2, none⟩ = some (.slice F2 T.prep.length f2)) (by kernel_rfl) (show w8.drew.cell? ⟨P, 4 + c * 6 + 3, none⟩ = some (.int .i64 s) ∧ w8.drew.cell? ⟨P, 4 + c * 6 + 5, none⟩ = some (.slice K2 (m.e.of c).2.length g2) ∧ w8.drew.cell? ⟨X, 2, none⟩ = some (.slice F2 T.prep.length f2) from ⟨p3, p5, x2⟩) (fun hS => ?_)
   refine tkZ 0 ?vae0 rfl ?yae0 hS ?rae0
   case yae0 => (intro w hSw; (try dsimp only at hSw); (try simp only [gTA, gCZ, gCS]); go_simp; try with_reducible rfl)
   (try simp only [gTA, gCZ, gCS, Act.put, sTA, sCZ, sCS])
   refine tkY 1 [2, 3, 4] ?vae1 rfl ?yae1 hS ?rae1
   case yae1 => (intro w hSw; (try dsimp only at hSw); (try simp only [gTA, gCZ, gCS]); go_simp; try with_reducible rfl)
   (try simp only [gTA, gCZ, gCS, Act.put, sTA, sCZ, sCS])
   refine tkY 2 [3, 4] ?vae2 rfl ?yae2 hS ?rae2
   case yae2 => (intro w hSw; (try dsimp only at hSw); (try simp only [gTA, gCZ, gCS]); go_simp; try with_reducible rfl)
   (try simp only [gTA, gCZ, gCS, Act.put, sTA, sCZ, sCS])
   refine tkY 3 [4] ?vae3 rfl ?yae3 hS ?rae3
   case yae3 => (intro w hSw; (try dsimp only at hSw); (try simp only [gTA, gCZ, gCS]); go_simp; try with_reducible rfl)
   (try simp only [gTA, gCZ, gCS, Act.put, sTA, sCZ, sCS])
   refine tkZ 4 ?vae4 rfl ?yae4 hS ?rae4
   case yae4 => (intro w hSw; (try dsimp only at hSw); (try simp only [gTA, gCZ, gCS]); go_simp; try with_reducible rfl)
   (try simp only [gTA, gCZ, gCS, Act.put, sTA, sCZ, sCS])
   refine tkY 5 [6, 7, 8, 11] ?vae5 rfl ?yae5 hS ?rae5
   case yae5 => (intro w hSw; (try dsimp only at hSw); (try simp only [gTA, gCZ, gCS]); go_simp; try with_reducible rfl)
   (try simp only [gTA, gCZ, gCS, Act.put, sTA, sCZ, sCS])
   refine tkY 6 [7, 8, 11] ?vae6 rfl ?yae6 hS ?rae6
   case yae6 => (intro w hSw; (try dsimp only at hSw); (try simp only [gTA, gCZ, gCS]); go_simp; try with_reducible rfl)
   (try simp only [gTA, gCZ, gCS, Act.put, sTA, sCZ, sCS])
   refine tkY 7 [8, 11] ?vae7 rfl ?yae7 hS ?rae7
   case yae7 => (intro w hSw; (try dsimp only at hSw); (try simp only [gTA, gCZ, gCS]); go_simp; try with_reducible rfl)
   (try simp only [gTA, gCZ, gCS, Act.put, sTA, sCZ, sCS])
   refine tkY 8 [11] ?vae8 rfl ?yae8 hS ?rae8
   case yae8 => (intro w hSw; (try dsimp only at hSw); (try simp only [gTA, gCZ, gCS]); go_simp; try with_reducible rfl)
   (try simp only [gTA, gCZ, gCS, Act.put, sTA, sCZ, sCS])
   refine tkY 9 [10, 11] ?vae9 rfl ?yae9 hS ?rae9
   case yae9 => (intro w hSw; (try dsimp only at hSw); (try simp only [gTA, gCZ, gCS]); go_simp; try with_reducible rfl)
   (try simp only [gTA, gCZ, gCS, Act.put, sTA, sCZ, sCS])
   refine tkY 10 [11] ?vae10 rfl ?yae10 hS ?rae10
   case yae10 => (intro w hSw; (try dsimp only at hSw); (try simp only [gTA, gCZ, gCS]); go_simp; try with_reducible rfl)
   (try simp only [gTA, gCZ, gCS, Act.put, sTA, sCZ, sCS])
   refine wpAnyZ_one (i := 11) rfl rfl (by kernel_rfl) (fun K hK => ?_)
   (try simp only [gTA, gCZ, gCS])
   go_simp
   refine (HWB.out _ (Below.refl _ _).drew).mono ?_
   rintro e w9 ⟨u9, rfl, hlu, hiu, hb9⟩
   obtain ⟨Au, cu, hu, _⟩ := hlu.form
   have kb := bel_add' (Below.refl w8.heap.size w8).drew hb9 (nL _)
   have HU := hD (And.intro hlu (hiu.mono (Q := fun b => b ≠ P) (fun b hb => by have : w8.heap.size ≤ b := hb; omega)))
   subst hu
   clear hb9 hlu hiu
   go_simp
   have hS2 := (show w9.cell? ⟨P, 4 + c * 6 + 3, none⟩ = some (.int .i64 s) ∧ w9.cell? ⟨P, 4 + c * 6 + 5, none⟩ = some (.slice K2 (m.e.of c).2.length g2) ∧ w9.cell? ⟨X, 2, none⟩ = some (.slice F2 T.prep.length f2) from ⟨(kb.cell (p := ⟨P, 4 + c * 6 + 3, none⟩) hP8).trans p3, (kb.cell (p := ⟨P, 4 + c * 6 + 5, none⟩) hP8).trans p5, (kb.cell (p := ⟨X, 2, none⟩) hX8).trans x2⟩)
   refine hK.out _ _ hS2 ?_
   clear hK K hS
   have hS := hS2
   clear hS2
   (try simp only [gTA, gCZ, gCS, Act.put, sTA, sCZ, sCS])
   refine wpAnyZ_last rfl rfl (by kernel_rfl) (by kernel_rfl) (fun K hK => ?_)
   (try simp only [gTA, gCZ, gCS])
   go_simp
   refine (store_any w9 (HM8.out.below kb) (HT8.out.below (kb.mono (by omega))) HW8.out s (by show s < (doW V s 9 _).ss.length; rw [HN8.out]; exact HL5.out) 11 _ _ HU.out.1 HU.out.2 (fun q hq => HP2.out q (without_mem.1 hq).1)).mono ?_
   rintro e wA ⟨⟨fA, rfl, hMA⟩, _, _, hBA, hOA⟩
   go_simp
   refine hK.out _ _ ?_
   clear hK K
   (try simp only [gTA, gCZ, gCS, Act.put, sTA, sCZ, sCS])
   have HRW : restoreW m.e.w s (m.e.of c) = doW (doW V s 9 (without (m.e.of c).1 T.set)) s 11 (without (m.e.of c).2 T.prep) := by
    unfold restoreW
    simp only [HS.out]
    rw [if_pos HOR.out]
    have hv : (doM m.e.w s 4 ⟨#[]⟩ ⟨#[]⟩).1 = V := HV.out
    rw [hv, HTT.out]
   clear hS
   have HFF := hD (And.intro hMA (HB8.out.trans ((kb.mono (by omega)).trans hBA)))
   clear hMA hBA hOA kb HM8 HT8 HB8 HW8 HN8 HWB HU p3 p5 x2
   go_wp2
   go_end0
   try rw [HRW]
   exact ⟨_, _, rfl, HFF.out.1, HFF.out.2⟩
end
end Go.Proofs.YtpbaobmegomfpabGreatDoor
namespace Go.Proofs.YtpbaobmegomfpabGreatDoor
open Go.RowKit
def numV (n : Nat) : Value := .int .i64 (n : Int)
set_option maxHeartbeats 400000 in
theorem indexN_any (v : Value) (g : Option Nat) (l : List Nat) (x : Nat) (w : World) (hl : Sl w 3 1 v g l.length (l.map numV)) (hby : l.length ≤ 1000000) :
  Calls Tryz.prog 137 #[v, .int .i64 (x : Int)] w fun e w' => ∃ i : Int, e = .returned (.int .i64 i) ∧ decide (0 ≤ i) = l.contains x ∧ w' = w := by
 obtain ⟨A, c, rfl, hc⟩ := hl.shape
 have HL := hD hl
 clear hl
 go_enter Tryz.func137, Tryz.ntmps137
 go_wp2
 go_loopw [8] (fun i wr => ∃ k : Nat, k ≤ l.length ∧ i = .int .i64 k ∧ Hid ((l.take k).contains x = false) ∧ wr = w) (fun i _ => l.length - (intOf i).toNat)
 case atStart => exact ⟨0, by omega, rfl, rfl, rfl⟩
 case round =>
  obtain ⟨k, hk, rfl, HZ, rfl⟩ := hrel
  by_cases hlt : k < l.length
  ·obtain ⟨b, off, cap, hg, hv, _, hcs⟩ := HL.out.at (by omega)
   injection hv with hv e2 e3
   subst hv
   have c0 := hcs k (by simpa using hlt)
   rw [List.getElem_map] at c0
   unfold numV at c0
   have HS1 := hD (show (l.take (k + 1)).contains x = (x == l[k]) by
    rw [List.take_succ_eq_append_getElem hlt, List.contains_append, HZ.out]
    simp
    rfl)
   have HAN := hD (fun (h : x = l[k]) => show l.contains x = true from by rw [h]; exact List.contains_iff_mem.2 (List.getElem_mem hlt))
   generalize l[k] = y at *
   by_cases hq : x = y
   ·have HT := hD (HAN.out hq)
    have t1 : ((x : Int) == (y : Int)) = true := by simp [hq]
    clear hq HAN HS1 hcs hg e2 e3
    go_wp2
    go_ret
    exact ⟨_, rfl, by rw [HT.out]; simp, rfl⟩
   ·have t1 : ((x : Int) == (y : Int)) = false := by simp; omega
    have HF := hD (show (l.take (k + 1)).contains x = false by rw [HS1.out]; simp [hq])
    clear hq HAN HS1 hcs hg e2 e3
    go_wp2
    go_roundw
    case rel => exact ⟨k + 1, by omega, by go_num, HF.out, by trivial⟩
    case measure => simp [intOf]; omega
  ·obtain rfl : k = l.length := by omega
   rw [List.take_length] at HZ
   go_wp2
   go_ret
   exact ⟨_, rfl, by rw [HZ.out]; decide, rfl⟩
set_option maxHeartbeats 400000 in
theorem containsN_any (v : Value) (g : Option Nat) (l : List Nat) (x : Nat) (w : World) (hl : Sl w 3 1 v g l.length (l.map numV)) (hby : l.length ≤ 1000000) :
  Calls Tryz.prog 120 #[v, .int .i64 (x : Int)] w fun e w' => e = .returned (.bool (l.contains x)) ∧ w' = w := by
 have HI := hD (indexN_any v g l x w hl hby)
 obtain ⟨A, c, rfl, hc⟩ := hl.shape
 clear hl
 go_enter Tryz.func120, Tryz.ntmps120
 go_wp2_with fail
 refine HI.out.mono ?_
 rintro e w1 ⟨i, rfl, hi, rfl⟩
 have HI2 := hD hi
 clear hi
 go_wp2
 go_ret
 exact ⟨by rw [← HI2.out]; rfl, rfl⟩
def IdxB (l : List Bool) (i : Int) : Prop := (l.idxOf false < l.length ∧ i = (l.idxOf false : Nat)) ∨ (¬ l.idxOf false < l.length ∧ i = -1)
theorem idx_le : ∀ {l : List Bool} {k : Nat} (hk : k < l.length), l[k] = false → l.idxOf false ≤ k
 | b :: l, 0, _, h => by
  simp only [gCZ] at h
  rw [h, List.idxOf_cons_self]
  exact nL _
 | b :: l, k + 1, hk, h => by
  have := idx_le (l := l) (k := k) (by simpa using hk) (by simpa using h)
  rw [List.idxOf_cons]
  cases b
  ·simp
  ·simpa using this
set_option maxHeartbeats 400000 in
theorem indexB_any (v : Value) (g : Option Nat) (l : List Bool) (w : World) (hl : Sl w 4 1 v g l.length (l.map Value.bool)) (hby : l.length ≤ 1000000) :
  Calls Tryz.prog 121 #[v, .bool false] w fun e w' => ∃ i : Int, e = .returned (.int .i64 i) ∧ IdxB l i ∧ w' = w := by
 obtain ⟨A, c, rfl, hc⟩ := hl.shape
 have HL := hD hl
 clear hl
 go_enter Tryz.func121, Tryz.ntmps121
 go_wp2
 go_loopw [8] (fun i wr => ∃ k : Nat, k ≤ l.length ∧ i = .int .i64 k ∧ Hid (k ≤ l.idxOf false) ∧ wr = w) (fun i _ => l.length - (intOf i).toNat)
 case atStart => exact ⟨0, by omega, rfl, Nat.zero_le _, rfl⟩
 case round =>
  obtain ⟨k, hk, rfl, HZ, rfl⟩ := hrel
  by_cases hlt : k < l.length
  ·obtain ⟨b, off, cap, hg, hv, _, hcs⟩ := HL.out.at (by omega)
   injection hv with hv e2 e3
   subst hv
   have c0 := hcs k (by simpa using hlt)
   rw [List.getElem_map] at c0
   have HT := hD (fun (h : l[k] = false) => show l.idxOf false = k from by
    have h1 := HZ.out
    have h2 : l.idxOf false ≤ k := idx_le hlt h
    omega)
   have HF := hD (fun (h : l[k] = true) => show k + 1 ≤ l.idxOf false from by
    have h1 := HZ.out
    rcases Nat.lt_or_ge k (l.idxOf false) with h' | h'
    ·exact h'
    ·have e : l.idxOf false = k := by omega
     have h3 := List.getElem_idxOf (x := false) (xs := l) (by rw [e]; exact hlt)
     simp only [e, h] at h3
     cases h3)
   cases hq : l[k] with
   | false =>
    rw [hq] at c0
    have HE := hD (HT.out hq)
    clear hq HT HF hcs hg e2 e3
    go_wp2
    go_ret
    exact ⟨_, rfl, .inl ⟨by rw [HE.out]; exact hlt, by rw [HE.out]⟩, rfl⟩
   | true =>
    rw [hq] at c0
    have HE := hD (HF.out hq)
    clear hq HT HF hcs hg e2 e3
    go_wp2
    go_roundw
    case rel => exact ⟨k + 1, by omega, by go_num, HE.out, by trivial⟩
    case measure => simp [intOf]; omega
  ·obtain rfl : k = l.length := by omega
   go_wp2
   go_ret
   exact ⟨_, rfl, .inr ⟨by have := HZ.out; omega, rfl⟩, rfl⟩
end Go.Proofs.YtpbaobmegomfpabGreatDoor
namespace Go.Proofs.YtpbaobmegomfpabGreatDoor
open Go.RowKit
section
variable {base P : Nat} {f : Nat → Value} {G : Nat → Option Nat} {mode : Int} {m : Mach PE}
theorem items_wait (m : Mach PE) {c : Nat} (hc : c < 6) : items m (2 + c) = (m.get c).wait.map reqV := by
 unfold items
 rw [if_neg (by omega), if_pos (by omega), show 2 + c - 2 = c by omega]
theorem PMem.waitSl {w : World} (h : PMem 0 w base P f G mode m) {c : Nat} (hc : c < 6) : Sl w 41 3 (f (4 + c * 6 + 1)) (G (2 + c)) (m.get c).wait.length ((m.get c).wait.map reqV).flatten := by
 have e1 : slC (2 + c) = 4 + c * 6 + 1 := by unfold slC; rw [if_neg (by omega), if_pos (by omega)]; omega
 have e2 : slT (2 + c) = 41 := by unfold slT; rw [if_neg (by omega), if_pos (by omega)]
 have e3 : slZ (2 + c) = 3 := by unfold slZ; rw [if_neg (by omega), if_pos (by omega)]
 have := h.sl (2 + c) (by omega) (by omega) (by omega)
 rw [e1, e2, e3, items_wait _ hc, List.length_map] at this
 exact this
theorem PMem.first {w : World} (h : PMem 0 w base P f G mode m) {c : Nat} (hc : c < 6) {r : Req} {l : List Req} (hw : (m.get c).wait = r :: l) :
  ∃ b off cap, G (2 + c) = some b ∧ f (4 + c * 6 + 1) = .slice (some ⟨b, off, none⟩) (l.length + 1) cap ∧ l.length + 1 ≤ cap ∧ w.cell? ⟨b, off, none⟩ = some (.int .i64 r.k) ∧ w.cell? ⟨b, off + 1, none⟩ = some (.string r.key) ∧ w.cell? ⟨b, off + 2, none⟩ = some (.string r.val) := by
 have hs := h.waitSl hc
 rw [hw] at hs
 obtain ⟨b, off, cap, h1, h2, h3, h4⟩ := hs.at (by simp)
 have hlen : 3 ≤ ((r :: l).map reqV).flatten.length := by rw [hs.len]; simp only [List.length_cons]; omega
 refine ⟨b, off, cap, h1, by simpa using h2, by simpa using h3, ?_, ?_, ?_⟩
 ·have := h4 0 (by omega); simpa [reqV] using this
 ·have := h4 1 (by omega); simpa [reqV] using this
 ·have := h4 2 (by omega); simpa [reqV] using this
theorem refuse_empty {r : Req} : (refuse mode r).size = 0 ↔ refB mode r = false := by
 unfold refuse refB
 by_cases h1 : r.k = 0
 ·simp [h1, tUnder, ByteArray.size]
 ·by_cases h2 : r.k = 1 ∧ mode = 3
  ·simp [h1, h2, tMode, ByteArray.size]
  ·rw [if_neg h1, if_neg h2]
   simp only [decide_eq_false_iff_not]
   exact ⟨fun _ hh => hh.elim h1 h2, fun _ => rfl⟩
set_option maxHeartbeats 1000000 in
theorem ready_any (w : World) (h : PMem 0 w base P f G mode m) {c : Nat} (hc : c < 6) :
  Calls Tryz.prog 99 #[ptr P 0, .int .i64 c] w fun e w' => e = .returned (.bool (readyB mode (m.get c))) ∧ Below w.heap.size w w' := by
 have hP := h.row.lt
 have hcI : (c : Int) < 6 := by omega
 have p1 := h.row.cell (j := 4 + c * 6 + 1) (by omega)
 have p2 := h.row.cell (j := 4 + c * 6 + 2) (by omega)
 have p0 := h.row.cell (j := 0) (by omega)
 rw [h.has c hc] at p2
 rw [h.md] at p0
 unfold ptr
 cases hw : (m.get c).wait with
 | nil =>
  have hs := h.waitSl hc
  rw [hw] at hs
  obtain ⟨A, cc, hv, _⟩ := hs.shape
  rw [hv] at p1
  simp only [List.length_nil] at p1
  have HE := hD (show readyB mode (m.get c) = false by unfold readyB; rw [hw])
  clear hs hv hw p2 p0 h
  go_enter Tryz.func99, Tryz.ntmps99
  go_wp2
  go_ret
  exact ⟨by rw [HE.out]; rfl, Below.refl _ _⟩
 | cons r l =>
  obtain ⟨b, off, cap, hG, hv, hcap, c0, c1, c2⟩ := h.first hc hw
  rw [hv] at p1
  have hbl := (h.lo _ _ hG).2
  have hpos : (0 : Int) < ((l.length + 1 : Nat) : Int) := by omega
  cases hsv : (m.get c).srv with
  | some s =>
   have HE := hD (show readyB mode (m.get c) = true by unfold readyB; rw [hw, hsv]; rfl)
   rw [hsv] at p2
   simp only [Option.isSome] at p2
   clear hv hw hsv hG h p0 c0 c1 c2
   generalize l.length = n at *
   go_enter Tryz.func99, Tryz.ntmps99
   go_wp2
   go_ret
   exact ⟨by rw [HE.out]; rfl, Below.refl _ _⟩
  | none =>
   have HE := hD (show readyB mode (m.get c) = refB mode r by unfold readyB; rw [hw, hsv]; rfl)
   rw [hsv] at p2
   simp only [Option.isSome] at p2
   have HRF := hD (fun (wc : World) (h1 : wc.cell? ⟨P, 0, none⟩ = some (.int .i64 mode)) (h2 : P < wc.heap.size) => refusal_any P mode r.k r.key r.val wc h1 h2)
   have HRE := hD (refuse_empty (mode := mode) (r := r))
   obtain ⟨rf, HRf⟩ : ∃ x, Hid (refuse mode r = x) := ⟨_, hD rfl⟩
   have hrf : refuse mode ⟨r.k, r.key, r.val⟩ = rf := HRf.out
   rw [hrf] at HRF
   rw [HRf.out] at HRE
   have HP0 := hD p0
   unfold ptr at HRF
   clear hv hw hsv hG h hrf HRf p0
   generalize l.length = n at *
   go_enter Tryz.func99, Tryz.ntmps99
   go_wp2_with fail
   refine (HRF.out _ HP0.out hP).mono ?_
   rintro e w1 ⟨rfl, hb1⟩
   have HB := hD hb1
   clear hb1 c0 c1 c2 p1 p2 HP0 HRF
   have hEq : (!rf.toList.isEmpty) = refB mode r := by
    cases hh : refB mode r with
    | false => rw [empty_of (HRE.out.2 hh)]; rfl
    | true =>
     have h1 : 1 ≤ rf.size := by
      have hne : rf.size ≠ 0 := fun h0 => by rw [HRE.out.1 h0] at hh; cases hh
      omega
     rw [full_of h1]; rfl
   have HEQ := hD hEq
   clear hEq
   go_wp2
   go_ret
   refine ⟨?_, HB.out⟩
   rw [HE.out, ← HEQ.out]
   rfl
end
end Go.Proofs.YtpbaobmegomfpabGreatDoor
namespace Go.Proofs.YtpbaobmegomfpabGreatDoor
open Go.RowKit
theorem int_row : (Tryz.prog.info? 3).map (fun i => (i.zero, i.size, i.bytes)) = some (some (.int .i64 0), 1, 8) := by kernel_rfl
section
variable {base P : Nat} {f : Nat → Value} {G : Nat → Option Nat} {mode : Int} {m : Mach PE}
theorem items_line (m : Mach PE) : items m 8 = m.line.map (fun (n : Nat) => [Value.int .i64 (n : Int)]) := by
 unfold items; rw [if_neg (by omega), if_neg (by omega), if_pos rfl]
theorem flat_nums (l : List Nat) : (l.map (fun (n : Nat) => [Value.int .i64 (n : Int)])).flatten = l.map numV := by
 induction l with
 | nil => rfl
 | cons a l ih => simp [ih, numV]
theorem PMem.lineSl {w : World} (h : PMem 0 w base P f G mode m) : Sl w 3 1 (f 40) (G 8) m.line.length (m.line.map numV) := by
 have := h.sl 8 (by omega) (by omega) (by omega)
 rw [items_line, flat_nums, List.length_map] at this
 exact this
theorem items_less {m m' : Mach PE} {k : Nat} (h1 : m'.cl = m.cl) (h2 : m'.busy = m.busy) (h4 : m'.sent = m.sent) (h5 : m'.deeds = m.deeds) (hk : k ≠ 8) : items m' k = items m k := by
 unfold items Mach.get
 rw [h1, h2, h4, h5, if_neg hk, if_neg hk]
theorem PMem.queued {w : World} (h : PMem 0 w base P f G mode m) (hl : m.line.length ≤ 1000) {ad : Nat} (x : Nat) (hx : w.cell? ⟨ad, 0, none⟩ = some (.int .i64 (x : Int))) :
  ∃ b off cap w', (Builtin.append_ #[79, 79] 79 #[f 40, .slice (some ⟨ad, 0, none⟩) 1 1]).run Tryz.prog w = .ok (.slice (some ⟨b, off, none⟩) (m.line.length + 1) cap) w' ∧ w'.cell? ⟨P, 40, none⟩ = some (f 40) ∧ w'.frozen? ⟨P, 40, none⟩ = false ∧ P < w'.heap.size ∧
   PMem 0 (w'.setCell ⟨P, 40, none⟩ (.slice (some ⟨b, off, none⟩) (m.line.length + 1) cap)) base P (upd f 40 (.slice (some ⟨b, off, none⟩) (m.line.length + 1) cap)) (upd G 8 (some b)) mode { m with line := m.line ++ [x] } ∧ Below base w (w'.setCell ⟨P, 40, none⟩ (.slice (some ⟨b, off, none⟩) (m.line.length + 1) cap)) := by
 obtain ⟨i0, hi, hz0, hz1, hz2⟩ := info_parts int_row
 have hbP := (h.lo 0 P h.p0).1
 have hbase : base ≤ w.heap.size := Nat.le_trans hbP (Nat.le_of_lt h.row.lt)
 obtain ⟨b, off, cap, w', hrun, hs, hg, hb⟩ := h.lineSl.append (P := Tryz.prog) 79 79 i0 _ 8 Tryz.underlying79 hi hz0 hz1 hz2 rfl (by omega) ⟨ad, 0, none⟩ 1 [.int .i64 (x : Int)] rfl (fun j u hu => by
  cases j with
  | zero => simp at hu; rw [← hu]; exact hx
  | succ j => simp at hu) (fun u hu => by simp at hu; rw [hu]; rfl) (by unfold maxLen; omega) (by omega)
 have hne : some P ≠ G 8 := fun e => h.noP (k := 8) (by omega) e.symm
 have hP' := hg.block P h.row.lt hne
 have hgr := h.grow (k := 8) (m' := { m with line := m.line ++ [x] }) (n' := m.line.length + 1) (v := .slice (some ⟨b, off, none⟩) (m.line.length + 1) cap) (b := b) (by omega) (by omega) hbase hg hs hb (by rw [items_line]; simp) (by rw [items_line, flat_nums, List.map_append]; rfl) (fun k hk => items_less rfl rfl rfl rfl hk) rfl (fun _ => rfl) (fun _ => rfl)
 exact ⟨b, off, cap, w', hrun, (World.cell?_of_block (a := ⟨P, 40, none⟩) hP').trans (h.row.cell (j := 40) (by omega)), (World.frozen?_of_block (a := ⟨P, 40, none⟩) hP').trans (h.row.frozen _), Nat.lt_of_lt_of_le h.row.lt hg.size, hgr, ((Below.refl base w).grown hg hbase (fun x hx => (h.lo _ _ hx).1)).setCell hbP _⟩
def lineK (m : Mach PE) (k : Nat) : List Nat := (List.range k).foldl (enqL m) m.line
theorem lineK_succ (m : Mach PE) (k : Nat) : lineK m (k + 1) = enqL m (lineK m k) k := by unfold lineK; rw [List.range_succ, List.foldl_append]; rfl
set_option maxHeartbeats 1000000 in
theorem enqueue_any (w : World) (h : PMem 0 w base P f G mode m) (hl : m.line.length ≤ 6) :
  Calls Tryz.prog 101 #[ptr P 0] w (PPost w base P mode m.enq) := by
 have H0 := hD h
 have hPw := h.row.lt
 clear h
 unfold ptr
 go_enter Tryz.func101, Tryz.ntmps101
 go_wp2
 go_loopw [3] (fun i wr => ∃ k : Nat, k ≤ 6 ∧ i = .int .i64 k ∧ Hid ((∃ f' G', PMem 0 wr base P f' G' mode { m with line := lineK m k }) ∧ (lineK m k).length ≤ 6 + k ∧ Below base w wr)) (fun i _ => 6 - (intOf i).toNat)
 case atStart => exact ⟨0, by omega, rfl, ⟨f, G, H0.out⟩, by show m.line.length ≤ _; omega, Below.refl _ _⟩
 case round =>
  obtain ⟨k, hk, rfl, HZ⟩ := hrel
  by_cases hlt : k < 6
  ·obtain ⟨⟨f', G', hM⟩, hlen, hB⟩ := HZ.out
   have hP := hM.row.lt
   have hkI : (k : Int) < 6 := by omega
   have p1 := hM.row.cell (j := 4 + k * 6 + 1) (by omega)
   have HS := hD (lineK_succ m k)
   cases hw : (m.get k).wait with
   | nil =>
    have hs := hM.waitSl hlt
    have hw' : (Mach.get { m with line := lineK m k } k).wait = [] := hw
    rw [hw'] at hs
    obtain ⟨A, cc, hv, _⟩ := hs.shape
    rw [hv] at p1
    simp only [List.length_nil] at p1
    have HE := hD (show lineK m (k + 1) = lineK m k by rw [HS.out]; unfold enqL; rw [if_neg (fun hh => hh.1 hw)])
    have HF := hD (And.intro (show ∃ f' G', PMem 0 wr base P f' G' mode { m with line := lineK m k } from ⟨f', G', hM⟩) (And.intro (show (lineK m k).length ≤ 6 + (k + 1) by omega) hB))
    clear hs hv hw hw' hM hB hlen HZ HS
    go_wp2
    go_roundw
    case rel => exact ⟨k + 1, by omega, by go_num, by rw [HE.out]; exact HF.out⟩
    case measure => simp [intOf]; omega
   | cons r l =>
    have hs := hM.waitSl hlt
    have hw' : (Mach.get { m with line := lineK m k } k).wait = r :: l := hw
    rw [hw'] at hs
    obtain ⟨A, cc, hv, _⟩ := hs.shape
    rw [hv] at p1
    simp only [List.length_cons] at p1
    have hpos : (0 : Int) < ((l.length + 1 : Nat) : Int) := by omega
    have q0 := hM.row.cell (j := 40) (by omega)
    have hsl := hM.lineSl
    have HCN := hD (containsN_any (f' 40) (G' 8) (lineK m k) k wr hsl (by omega))
    have HSH := hD hsl.shape
    cases hq : (lineK m k).contains k with
    | true =>
     rw [hq] at HCN
     have HE := hD (show lineK m (k + 1) = lineK m k by rw [HS.out]; unfold enqL; rw [if_neg (fun hh => hh.2 (List.contains_iff_mem.1 hq))])
     have HF := hD (And.intro (show ∃ f' G', PMem 0 wr base P f' G' mode { m with line := lineK m k } from ⟨f', G', hM⟩) (And.intro (show (lineK m k).length ≤ 6 + (k + 1) by omega) hB))
     clear hs hv hw hw' hM hB hlen HZ HS hq hsl
     obtain ⟨A', c', hv', _⟩ := HSH.out
     generalize f' 40 = v40 at *
     subst hv'
     generalize l.length = n at *
     go_wp2_with fail
     refine HCN.out.mono ?_
     rintro e w1 ⟨rfl, rfl⟩
     go_wp2
     go_roundw
     case rel => exact ⟨k + 1, by omega, by go_num, by rw [HE.out]; exact HF.out⟩
     case measure => simp [intOf]; omega
    | false =>
     rw [hq] at HCN
     have HE := hD (show lineK m (k + 1) = lineK m k ++ [k] by rw [HS.out]; unfold enqL; rw [if_pos ⟨by rw [hw]; simp, fun hh => by rw [List.contains_iff_mem.2 hh] at hq; cases hq⟩])
     have n1 := (Below.refl wr.heap.size wr).alloc (nL _) (.cells #[.int .i64 (k : Int)] 3)
     have X := (RowTo.whole wr #[.int .i64 (k : Int)] 3).cell (j := 0) (by simp)
     have hM1 := hM.below n1
     obtain ⟨b, off, cap, w2, hrun, u0, z0, hP2, hM2, hB2⟩ := hM1.queued (by show (lineK m k).length ≤ 1000; omega) (ad := wr.heap.size) k X
     have HF := hD (And.intro (show ∃ f' G', PMem 0 _ base P f' G' mode { m with line := lineK m k ++ [k] } from ⟨_, _, hM2⟩) (And.intro (show (lineK m k ++ [k]).length ≤ 6 + (k + 1) by simp; omega) (hB.trans ((n1.mono (by have := hB.size; have := (hM.lo 0 P hM.p0).1; omega)).trans hB2))))
     have hrun' : (Builtin.append_ #[79, 79] 79 #[f' 40, .slice (some ⟨wr.heap.size, 0, none⟩) 1 1]).run Tryz.prog (wr.alloc (.cells #[.int .i64 (k : Int)] 3)) = .ok (.slice (some ⟨b, off, none⟩) ((lineK m k).length + 1) cap) w2 := hrun
     simp only at HF
     obtain ⟨A', c', hv', _⟩ := HSH.out
     have q1 := (n1.cell (p := ⟨P, 40, none⟩) hP).trans q0
     clear hs hv hw hw' hM hB hlen HZ HS hq hsl hM1 hM2 hB2 n1 X hrun
     generalize f' 40 = v40 at *
     subst hv'
     generalize l.length = n at *
     generalize (lineK m k).length = nl at *
     go_wp2_with fail
     refine HCN.out.mono ?_
     rintro e w1 ⟨rfl, rfl⟩
     go_wp2_with (at_builtin; refine Lib.wpList_append_run _ rfl _ _ _ _ rfl _ _ rfl rfl _ _ hrun' ?_)
     go_roundw
     case rel => exact ⟨k + 1, by omega, by go_num, by rw [HE.out]; exact HF.out⟩
     case measure => simp [intOf]; omega
  ·obtain rfl : k = 6 := by omega
   go_wp2
   go_end0
   obtain ⟨⟨f', G', hM⟩, _, hB⟩ := HZ.out
   exact ⟨f', G', rfl, hM, hB⟩
end
end Go.Proofs.YtpbaobmegomfpabGreatDoor
namespace Go.Proofs.YtpbaobmegomfpabGreatDoor
open Go.RowKit
section
variable {base P : Nat} {f : Nat → Value} {G : Nat → Option Nat} {mode : Int} {m : Mach PE} {N : Nat}
theorem Inv.kept (h : Inv mode m N) {c : Nat} (hc : c < 6) (hs : (m.get c).srv = none) : (∀ q ∈ (m.e.of c).1, checkE 9 q.1 q.2 = 0) ∧ ∀ q ∈ (m.e.of c).2, checkE 11 q.1 q.2 = 0 := by
 obtain ⟨H, al⟩ := h.al
 have okc := sess_at al.okH (i := c) (by rw [al.hlen]; exact hc)
 rw [al.bare c hc hs] at okc
 exact ⟨(pairsB_rising okc.set).2.2, (pairsB_rising okc.prep).2.2⟩
theorem PMem.cutK {w : World} (h : PMem 0 w base P f G mode m) {m' : Mach PE} {k : Nat} (h1 : 1 ≤ k) (h2 : k ≤ 15) {b off cap n : Nat} (hf : f (slC k) = .slice (some ⟨b, off, none⟩) (n + 1) cap) {e : List Value} (hi : items m k = e :: items m' k) (he : e.length = slZ k) (hn : (items m' k).length = n)
  (ho : ∀ k', k' ≠ k → items m' k' = items m k') (hme : m'.e = m.e) (hb : ∀ c, (m'.get c).bytes = (m.get c).bytes) (hv : ∀ c, (m'.get c).srv = (m.get c).srv) :
  PMem 0 (w.setCell ⟨P, slC k, none⟩ (cutv b off (slZ k) n cap)) base P (upd f (slC k) (cutv b off (slZ k) n cap)) G mode m' := by
 have hs := h.sl k h1 h2 (by omega)
 rw [hf, hi] at hs
 simp only [List.length_cons, hn, List.flatten_cons] at hs
 have hc := hs.cut
 rw [List.drop_left' he] at hc
 refine ((h.but k).cellX h1 h2 _).fill ?_ ho hme hb hv
 rw [upd_at, hn]
 refine hc.ne (h.noP h1) (set_off w P (slC k) _)
def PPostB (w : World) (base P : Nat) (mode : Int) (r : Bool × Mach PE) (e : Ending) (w' : World) : Prop := ∃ f' G', e = .returned (.bool r.1) ∧ PMem 0 w' base P f' G' mode r.2 ∧ Below base w w'
set_option maxHeartbeats 2000000 in
theorem assign_any (w : World) (h : PMem 0 w base P f G mode m) (hT : Tabs w base) (hI : Inv mode m N) (hbl : m.busy.length ≤ 8) :
  Calls Tryz.prog 102 #[ptr P 0] w (PPostB w base P mode (m.assign poolO)) := by
 have hP := h.row.lt
 have hbP := (h.lo 0 P h.p0).1
 have HIX := hD (indexB_any (f 3) (G 1) m.busy w h.busySl (by omega))
 have b3 := h.row.cell (j := 3) (by omega)
 have q0 := h.row.cell (j := 40) (by omega)
 obtain ⟨A3, c3, hf3, _⟩ := h.busySl.shape
 obtain ⟨A4, c4, hf4, _⟩ := h.lineSl.shape
 have HH := hD h
 have HI := hD hI
 have HT := hD hT
 have HL := hD hI.line
 clear h hI hT
 unfold ptr
 by_cases hb : m.busy.idxOf false < m.busy.length
 case neg =>
  have HE := hD (show m.assign poolO = (false, m) by unfold Mach.assign; split; rfl; rw [if_neg hb])
  rw [hf3] at b3
  have hv3 : f 3 = .slice A3 m.busy.length c3 := hf3
  rw [hf3] at HIX
  clear hf3 hf4 q0
  go_enter Tryz.func102, Tryz.ntmps102
  go_wp2_with fail
  refine HIX.out.mono ?_
  rintro e w1 ⟨i, rfl, hi, rfl⟩
  obtain rfl : i = -1 := by
   rcases hi with hi | hi
   ·exact absurd hi.1 hb
   ·exact hi.2
  clear hi
  go_wp2
  go_ret
  rw [HE.out]
  exact ⟨f, G, rfl, HH.out, Below.refl _ _⟩
 rw [hf3] at b3 HIX
 cases hl : m.line with
 | nil =>
  have HE := hD (show m.assign poolO = (false, m) by unfold Mach.assign; rw [hl])
  rw [hf4, hl] at q0
  simp only [List.length_nil] at q0
  clear hf3 hf4
  go_enter Tryz.func102, Tryz.ntmps102
  go_wp2_with fail
  refine HIX.out.mono ?_
  rintro e w1 ⟨i, rfl, hi, rfl⟩
  obtain ⟨k, rfl⟩ : ∃ k : Nat, i = k := by
   rcases hi with hi | hi
   ·exact ⟨_, hi.2⟩
   ·exact absurd hb hi.1
  have hk0 : decide ((k : Int) < 0) = false := decide_eq_false (by omega)
  clear hi
  go_wp2
  go_ret
  rw [HE.out]
  exact ⟨f, G, rfl, HH.out, Below.refl _ _⟩
 | cons c l =>
  have hc6 := (HI.out.ok.line c (by rw [hl]; exact List.mem_cons_self)).1
  have hcn := (HI.out.ok.line c (by rw [hl]; exact List.mem_cons_self)).2.1
  have hsl := HH.out.lineSl
  rw [hl] at hsl
  obtain ⟨b, off, cap, hG8, hv40, hcap, hcs⟩ := hsl.at (by simp)
  have l0 := hcs 0 (by simp)
  simp only [List.map_cons, gCZ, numV, Nat.add_zero] at l0
  simp only [List.length_cons] at hv40
  rw [hv40] at q0
  have hbl0 := (HH.out.lo 8 b hG8)
  have hPb : P ≠ b := fun e => HH.out.noP (k := 8) (by omega) (by rw [hG8, e])
  have hcI : (c : Int) < 6 := by omega
  have hn0 : (((l.length + 1 : Nat) : Int) == 0) = false := by simp; omega
  have HBI := hD hb
  have HHL := hD hl
  have HCN := hD hcn
  have HV40 := hD hv40
  have HF3 := hD hf3
  have hcapl : l.length + 1 ≤ cap := by simpa using hcap
  clear hsl hcs hf4 hv40 hcap hl hf3 hcn hb
  go_enter Tryz.func102, Tryz.ntmps102
  go_wp2_with fail
  refine HIX.out.mono ?_
  rintro e w1 ⟨i, rfl, hi, rfl⟩
  obtain rfl : i = (m.busy.idxOf false : Nat) := by
   rcases hi with hi | hi
   ·exact hi.2
   ·exact absurd HBI.out hi.1
  have hk0 : decide (((m.busy.idxOf false : Nat) : Int) < 0) = false := decide_eq_false (by omega)
  clear hi HIX
  go_wp2_with fail
  go_quiet (fail)
  have hMd : PMem 0 (w1.drewN nq) base P f G mode m := HH.out.below (below_drewN (Below.refl _ _) nq)
  have hBd : Below base w1 (w1.drewN nq) := below_drewN (Below.refl _ _) nq
  have hTd := HT.out.below hBd
  obtain ⟨W, HW⟩ : ∃ u, Hid (w1.drewN nq = u) := ⟨_, hD rfl⟩
  rw [HW.out] at hMd hBd hTd ⊢
  clear HW b3 q0 l0 hbl0
  have hb := HBI.out
  have hl := HHL.out
  have hcn := HCN.out
  have hP := hMd.row.lt
  have q0 := hMd.row.cell (j := 40) (by omega)
  rw [HV40.out] at q0
  have hz40 := hMd.row.frozen 40
  -- the queue is cut
  have hM1 := hMd.cutK (m' := { m with line := l }) (k := 8) (by omega) (by omega) (b := b) (off := off) (cap := cap) (n := l.length) HV40.out (e := [.int .i64 (c : Int)]) (by rw [items_line, items_line, hl]; rfl) rfl (by rw [items_line]; simp) (fun k hk => items_less rfl rfl rfl rfl hk) rfl (fun _ => rfl) (fun _ => rfl)
  obtain ⟨vq, hvq⟩ : ∃ v, cutv b off 1 l.length cap = v := ⟨_, rfl⟩
  have hM1' : PMem 0 (W.setCell ⟨P, 40, none⟩ vq) base P (upd f 40 vq) G mode { m with line := l } := by rw [← hvq]; exact hM1
  obtain ⟨bb, ob, cp, g1, f3, hle, ⟨y, hy⟩, hfz, hM2⟩ := hM1'.setBusy (j := m.busy.idxOf false) hb true
  have hPbb : P ≠ bb := fun e => hMd.noP (k := 1) (by omega) (by rw [g1, e])
  have hbb := hMd.lo 1 bb g1
  have f3' : f 3 = .slice (some ⟨bb, ob, none⟩) m.busy.length cp := by rw [← f3]; exact (upd_ne (by omega)).symm
  have hA3 : A3 = some ⟨bb, ob, none⟩ ∧ c3 = cp := by rw [HF3.out] at f3'; injection f3' with e1 _ e3; exact ⟨e1, e3⟩
  obtain ⟨rfl, rfl⟩ := hA3
  have b3' := hM1'.row.cell (j := 3) (by omega)
  rw [f3] at b3'
  have s2 := hM2.row.cell (j := 4 + c * 6 + 2) (by omega)
  have s3 := hM2.row.cell (j := 4 + c * 6 + 3) (by omega)
  have z2 := hM2.row.frozen (4 + c * 6 + 2)
  have z3 := hM2.row.frozen (4 + c * 6 + 3)
  have hM3 := hM2.setSrv hc6 HI.out.ok.n6 (m.busy.idxOf false)
  have hgs : (Mach.get (Mach.set { m with line := l, busy := m.busy.set (m.busy.idxOf false) true } c { m.get c with srv := some (m.busy.idxOf false) }) c).srv = some (m.busy.idxOf false) := by
   rw [get_set (by show c < m.cl.length; rw [HI.out.ok.n6]; exact hc6), if_pos rfl]
  have hB3 : Below base W ((((W.setCell ⟨P, 40, none⟩ vq).setCell ⟨bb, ob + m.busy.idxOf false, none⟩ (.bool true)).setCell ⟨P, 4 + c * 6 + 2, none⟩ (.bool true)).setCell ⟨P, 4 + c * 6 + 3, none⟩ (.int .i64 (m.busy.idxOf false : Nat))) :=
   ((((Below.refl base W).setCell (p := ⟨P, 40, none⟩) hbP _).setCell (p := ⟨bb, ob + m.busy.idxOf false, none⟩) hbb.1 _).setCell (p := ⟨P, 4 + c * 6 + 2, none⟩) hbP _).setCell (p := ⟨P, 4 + c * 6 + 3, none⟩) hbP _
  have HRS := hD (restore_any _ hM3 (hTd.below hB3) HI.out.w hc6 hgs (by show _ < m.e.w.ss.length; rw [HI.out.plen]; exact hb) (HI.out.kept hc6 hcn).1 (HI.out.kept hc6 hcn).2)
  have HB3 := hD hB3
  have HE := hD (show m.assign poolO = (true, { Mach.set { m with line := l, busy := m.busy.set (m.busy.idxOf false) true } c { m.get c with srv := some (m.busy.idxOf false) } with e := ⟨restoreW m.e.w (m.busy.idxOf false) (m.e.of c), m.e.kept⟩ }) by
   unfold Mach.assign
   rw [hl]
   simp only
   rw [if_pos hb]
   rfl)
  obtain ⟨s, HSS⟩ : ∃ s, Hid (m.busy.idxOf false = s) := ⟨_, hD rfl⟩
  have hsl' : s < m.busy.length := by rw [← HSS.out]; exact hb
  have hsI : (s : Int) < (m.busy.length : Int) := by omega
  have HBF := hD (hBd.trans hB3)
  rw [HSS.out] at HRS HBF HE hfz hy s2 s3 z2 z3 hk0 ⊢
  generalize m.busy.length = nb at *
  clear hM1 hM1' hM2 hM3 hB3 hgs hG8 g1 f3 f3' hl hcn hle hb hMd hBd hTd HH HT HB3
  generalize l.length = nl at *
  unfold ptr at HRS
  by_cases hcp : cap = 1
  ·subst hcp
   obtain rfl : nl = 0 := by omega
   have hvq : Value.slice (some ⟨b, off, none⟩) 0 0 = vq := hvq
   subst hvq
   go_wp2_with fail
   refine HRS.out.mono ?_
   rintro e w5 ⟨f5, G5, rfl, hM5, hB5⟩
   have HFF := hD (And.intro hM5 (HBF.out.trans hB5))
   clear hM5 hB5 HRS
   go_wp2
   go_ret
   rw [HE.out]
   exact ⟨f5, G5, rfl, HFF.out.1, HFF.out.2⟩
  ·have hvq : Value.slice (some ⟨b, off + 1, none⟩) nl (cap - 1) = vq := by rw [← hvq]; unfold cutv; rw [if_neg hcp]
   subst hvq
   have hcp2 : cap - 1 ≠ 0 := by omega
   have hcp3 : ¬ cap ≤ 1 := by omega
   go_wp2_with fail
   refine HRS.out.mono ?_
   rintro e w5 ⟨f5, G5, rfl, hM5, hB5⟩
   have HFF := hD (And.intro hM5 (HBF.out.trans hB5))
   clear hM5 hB5 HRS
   go_wp2
   go_ret
   rw [HE.out]
   exact ⟨f5, G5, rfl, HFF.out.1, HFF.out.2⟩
end
end Go.Proofs.YtpbaobmegomfpabGreatDoor
namespace Go.Proofs.YtpbaobmegomfpabGreatDoor
open Go Go.RowKit
section
variable {P : Program} {ops : Array Oper} {Q : Exit → Go.Act → World → Prop} {md : Region.Mode} {S : World → Prop} {z : Nat}
theorem grid1 {A0 : Go.Act} {w0 : World} {i p di dp : Nat} {tp : TypeId} {zp : Array Value} {L : Bool → Bool → Array Bool}
  (op : ∃ o, ops[p]? = some o ∧ o.guard = none ∧ o.dst = some dp ∧ ∀ (ev : Operand → Value) w, (execOp ev o).run P w = .ok (.value (pt w.heap.size)) (w.alloc (.cells zp tp))) (ne : di ≠ dp)
  (r00 : Region.ready md ops (L false false) = [i, p]) (r10 : Region.ready md ops (L true false) = [p]) (r01 : Region.ready md ops (L false true) = [i])
  (s1 : (L false false).setIfInBounds i true = L true false) (s2 : (L false false).setIfInBounds p true = L false true) (s3 : (L true false).setIfInBounds p true = L true true) (s4 : (L false true).setIfInBounds i true = L true true)
  (n : Nat) (R : Value → World → World → Prop) (F : Value → Nat → World → Prop)
  (hc1 : wpOp P ops Q i (fun a' w' => ∃ v, a' = A0.put (some di) v ∧ R v w0 w') A0 w0)
  (hc2 : wpOp P ops Q i (fun a' w' => ∃ v, a' = (A0.put (some dp) (pt w0.heap.size)).put (some di) v ∧ R v (w0.alloc (.cells zp tp)) w') (A0.put (some dp) (pt w0.heap.size)) (w0.alloc (.cells zp tp)))
  (hS1 : ∀ v w', R v w0 w' → S w') (hS2 : S (w0.alloc (.cells zp tp)))
  (hf1 : ∀ v w', R v w0 w' → F v w'.heap.size (w'.alloc (.cells zp tp))) (hf2 : ∀ v w', R v (w0.alloc (.cells zp tp)) w' → F v w0.heap.size w') (hSF : ∀ v b w', F v b w' → S w')
  (hfin : ∀ v b w', F v b w' → wpAnyZ P md ops Q S z n (L true true) ((A0.put (some di) v).put (some dp) (pt b)) w') :
  wpAnyZ P md ops Q S z (n + 1 + 1) (L false false) A0 w0 := by
 obtain ⟨o, p1, p2, p3, p4⟩ := op
 refine ⟨fun h0 => (by rw [r00] at h0; cases h0), fun j hj => ?_⟩
 rw [r00] at hj
 have hj : j = i ∨ j = p := by simpa using hj
 rcases hj with rfl | rfl
 ·refine wpOp_mono (fun a' w' h => ?_) hc1
  obtain ⟨v, rfl, hR⟩ := h
  refine ⟨fun _ => hS1 v w' hR, ?_⟩
  rw [s1]
  refine ⟨fun h0 => (by rw [r10] at h0; cases h0), fun k hk => ?_⟩
  rw [r10] at hk
  obtain rfl : k = p := by simpa using hk
  refine wpOp_wp p1 p2 (wp_val (p4 _ w') ?_)
  rw [p3]
  exact ⟨fun _ => hSF _ _ _ (hf1 v w' hR), by rw [s3]; exact hfin _ _ _ (hf1 v w' hR)⟩
 ·refine wpOp_wp p1 p2 (wp_val (p4 _ w0) ?_)
  rw [p3]
  refine ⟨fun _ => hS2, ?_⟩
  rw [s2]
  refine ⟨fun h0 => (by rw [r01] at h0; cases h0), fun k hk => ?_⟩
  rw [r01] at hk
  obtain rfl : k = i := by simpa using hk
  refine wpOp_mono (fun a' w' h => ?_) hc2
  obtain ⟨v, rfl, hR⟩ := h
  refine ⟨fun _ => hSF _ _ _ (hf2 v w' hR), ?_⟩
  rw [s4, pc (Ne.symm ne)]
  exact hfin _ _ _ (hf2 v w' hR)
end
end Go.Proofs.YtpbaobmegomfpabGreatDoor
namespace Go.Proofs.YtpbaobmegomfpabGreatDoor
open Go.RowKit
theorem built_deed (c k ak st : Int) (key val text : ByteArray) : Tryz.prog.built 70 [(0, .int .i64 c), (1, .agg #[.int .i64 k, .string key, .string val]), (2, .agg #[.int .i64 ak, .string text, .int .i64 st])] = some #[.int .i64 c, .int .i64 k, .string key, .string val, .int .i64 ak, .string text, .int .i64 st] := by kernel_rfl
theorem exec_deed {ev : Operand → Value} {o : Oper} {x y z : Operand} {c k ak st : Int} {key val text : ByteArray} (ho : o.op = .build 70 #[(0, x), (1, y), (2, z)]) (hx : ev x = .int .i64 c) (hy : ev y = .agg #[.int .i64 k, .string key, .string val]) (hz : ev z = .agg #[.int .i64 ak, .string text, .int .i64 st]) (w : World) :
  (execOp ev o).run Tryz.prog w = .ok (.value (.agg #[.int .i64 c, .int .i64 k, .string key, .string val, .int .i64 ak, .string text, .int .i64 st])) w := by
 have h := run_build (P := Tryz.prog) w 70 #[(0, .int .i64 c), (1, .agg #[.int .i64 k, .string key, .string val]), (2, .agg #[.int .i64 ak, .string text, .int .i64 st])] _ (built_deed c k ak st key val text)
 unfold execOp
 simp only [ho, Sem.run_bind, Sem.run_pure, List.map_toArray, List.map_cons, List.map_nil, hx, hy, hz, h, Result.andThen_ok]
theorem exec_deeds {ev : Operand → Value} {o : Oper} {x : Operand} {c k ak st : Int} {key val text : ByteArray} (ho : o.op = .buildSlice 26 1 #[(0, x)]) (hx : ev x = .agg #[.int .i64 c, .int .i64 k, .string key, .string val, .int .i64 ak, .string text, .int .i64 st]) (w : World) :
  (execOp ev o).run Tryz.prog w = .ok (.value (.slice (some ⟨w.heap.size, 0, none⟩) 1 1)) (w.alloc (.cells #[.int .i64 c, .int .i64 k, .string key, .string val, .int .i64 ak, .string text, .int .i64 st] 70)) := by
 unfold execOp
 simp only [ho, Sem.run_bind, Sem.run_pure, List.map_toArray, List.map_cons, List.map_nil, hx]
 go_simp
end Go.Proofs.YtpbaobmegomfpabGreatDoor
