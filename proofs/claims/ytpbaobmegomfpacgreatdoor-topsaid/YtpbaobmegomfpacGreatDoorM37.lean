/-
  Texts of the proof, one behind the other: PLve, PReq, PDlv.
-/
import Derived.Test.YtpbaobmegomfpacGreatDoorM35
import Derived.Test.YtpbaobmegomfpacGreatDoorM36
import Derived.Test.YtpbaobmegomfpacGreatDoorM29
import Derived.Test.YtpbaobmegomfpacGreatDoorM15
import Derived.Test.YtpbaobmegomfpacGreatDoorM1
set_option linter.unusedVariables false
set_option linter.unusedSimpArgs false
set_option maxRecDepth 100000
open List renaming getElem_toArray → gTA, getElem_cons_zero → gCZ, getElem_cons_succ → gCS, setIfInBounds_toArray → sTA, set_cons_zero → sCZ, set_cons_succ → sCS
open Go.Lib renaming hid → jD
open Nat renaming le_refl → nL
namespace Go.Proofs.YtpbaobmegomfpacGreatDoor
open Go.RowKit
section
variable {base P : Nat} {f : Nat → Value} {G : Nat → Option Nat} {mode : Int} {m : Mach PE} {N : Nat}
def DelPost (w : World) (base P c : Nat) (f : Nat → Value) (G : Nat → Option Nat) (mode : Int) (m : Mach PE) (e : Ending) (w' : World) : Prop :=
 ∃ A n q, e = .returned (.slice A n q) ∧ P < w'.heap.size ∧ w'.cell? ⟨P, 40, none⟩ = some (f 40) ∧ w'.frozen? ⟨P, 40, none⟩ = false ∧
  PMem 0 (w'.setCell ⟨P, 40, none⟩ (.slice A n q)) base P (upd f 40 (.slice A n q)) G mode { m with line := m.line.filter (fun k => k != c) } ∧ Below base w w'
theorem delQ_any (w : World) (h : PMem 0 w base P f G mode m) (hl : m.line.length ≤ 6) {X c : Nat} (hX : Free G X) (hXl : X < w.heap.size) (hXc : w.cell? ⟨X, 0, none⟩ = some (.int .i64 (c : Int))) :
  Calls Tryz.prog 74 #[f 40, .func (.func 75) #[] #[.pointer (some ⟨X, 0, none⟩)]] w (DelPost w base P c f G mode m) := by
 have hi8 : ∀ q : Mach PE, items q 8 = q.line.map encN := fun q => by rw [items_line]; rfl
 have hoth : ∀ k, k ≠ 8 → items { m with line := m.line.filter (fun k => k != c) } k = items m k := fun k hk => items_less rfl rfl rfl rfl hk
 have hP := h.row.lt
 have hbP := (h.lo 0 P h.p0).1
 by_cases h0 : m.line = []
 ·obtain ⟨A, q, hf, _⟩ := h.lineSl.shape
  rw [h0] at hf
  simp only [List.length_nil] at hf
  rw [hf]
  refine (deleteFuncN_nil A q (.pointer (some ⟨X, 0, none⟩)) w).mono ?_
  rintro e w' ⟨rfl, rfl⟩
  refine ⟨A, 0, q, rfl, hP, h.row.cell (j := 40) (by omega), h.row.frozen 40, ?_, Below.refl _ _⟩
  have hx := (h.but 8).cellX (by omega) (by omega) (.slice A 0 q)
  refine hx.fill ?_ hoth rfl (fun _ => rfl) (fun _ => rfl)
  have hs := h.sl 8 (by omega) (by omega) (by omega)
  rw [upd_at]
  rw [hi8, h0] at hs ⊢
  have e8 : f (slC 8) = .slice A 0 q := hf
  rw [e8] at hs
  exact hs.ne (h.noP (by omega)) (set_off w' P _ _)
 ·have hn : 0 < m.line.length := List.length_pos_iff.2 h0
  have hs := h.sl 8 (by omega) (by omega) (by omega)
  rw [hi8, List.length_map] at hs
  obtain ⟨b, off, cap, hG, hf, hR⟩ := hs.rw encN_each (by simp) hn
  have hf' : f 40 = .slice (some ⟨b, off, none⟩) m.line.length cap := hf
  have hbb := h.lo 8 b hG
  have hXb : X ≠ b := fun e => hX 8 (by rw [hG, e])
  have hPb : P ≠ b := fun e => h.noP (k := 8) (by omega) (by rw [hG, e])
  rw [hf']
  refine (deleteFuncN (.pointer (some ⟨X, 0, none⟩)) (fun x => x == c) w b off cap base m.line hR (by omega) hbb.1 (fun x _ wc _ hk => ?_)).mono ?_
  ·refine leaveC_any x c X wc ?_ ?_
   ·exact (World.cell?_of_block (hk X hXl hXb)).trans hXc
   ·have := hk X hXl hXb
    rw [Array.getElem?_eq_getElem hXl] at this
    exact (Array.getElem?_eq_some_iff.1 this).1
  ·rintro e w' ⟨rfl, hR', hB, hk⟩
   refine ⟨_, _, _, rfl, Nat.lt_of_lt_of_le hP hB.size, ?_, ?_, ?_, hB⟩
   ·exact (World.cell?_of_block (hk P hP hPb)).trans (h.row.cell (j := 40) (by omega))
   ·exact (World.frozen?_of_block (hk P hP hPb)).trans (h.row.frozen 40)
   ·have hk8 := (h.but 8).keep (by omega) hB.size (fun g hg hne => hk g hg (fun e => hne (by rw [hG, e])))
    have hx := hk8.cellX (by omega) (by omega) (.slice (some ⟨b, off, none⟩) (m.line.filter fun x => !(x == c)).length cap)
    refine hx.fill ?_ hoth rfl (fun _ => rfl) (fun _ => rfl)
    rw [upd_at, hi8, hG]
    have hsl := hR'.sl (by omega)
    rw [List.length_map] at hsl
    have := hsl.ne (P := P) (fun e => hPb (by injection e with e; exact e.symm)) (set_off w' P (slC 8) (.slice (some ⟨b, off, none⟩) (m.line.filter fun x => !(x == c)).length cap))
    rw [List.length_map]
    exact this
theorem leave_none {c : Nat} (hs : (m.get c).srv = none) : ({ ({ m with line := m.line.filter (fun k => k != c) } : Mach PE) with cl := m.cl.set c Cl.new, e := ⟨m.e.w, m.e.kept.set c ([], [])⟩ } : Mach PE) = m.leave poolO c := by
 unfold Mach.leave poolO
 rw [hs]
theorem leave_some {c s : Nat} (hs : (m.get c).srv = some s) {W1 : Wd} (hW : W1 = if (m.e.w.at s).st ≠ 0 then (doR m.e.w s ⟨3, ⟨#[]⟩, ⟨#[]⟩⟩).1 else m.e.w) (m2 : Mach PE) (h2 : m2 = Mach.release poolO { m with e := ⟨W1, m.e.kept⟩ } c s) :
  ({ ({ m2 with line := m2.line.filter (fun k => k != c) } : Mach PE) with cl := m2.cl.set c Cl.new, e := ⟨m2.e.w, m2.e.kept.set c ([], [])⟩ } : Mach PE) = m.leave poolO c := by
 subst h2
 unfold Mach.leave poolO Mach.release PE.free
 simp only [hs, List.set_set]
 subst hW
 rfl
set_option maxHeartbeats 2000000 in
theorem leave_any (w : World) (h : PMem 0 w base P f G mode m) (hT : Tabs w base) (hI : Inv mode m N) {c : Nat} (hc : c < 6) :
  Calls Tryz.prog 58 #[ptr P 0, .int .i64 (c : Int)] w (PPost w base P mode (m.leave poolO c)) := by
 have hP := h.row.lt
 have hbP := (h.lo 0 P h.p0).1
 have n0 := (Below.refl w.heap.size w).alloc (nL _) (.cells #[.int .i64 (c : Int)] 3)
 have x0 := (RowTo.whole w #[.int .i64 (c : Int)] 3).cell (j := 0) (by simp)
 simp only [gTA, gCZ] at x0
 have hcI : (c : Int) < 6 := by omega
 have HFX := jD (show Free G w.heap.size from fun i e => absurd (h.lo i _ e).2 (Nat.lt_irrefl _))
 have HM0 := jD (h.below n0)
 have HB0 := jD (n0.mono (Nat.le_trans hbP (Nat.le_of_lt hP)))
 have HX0 := jD x0
 have HT := jD hT
 have HI := jD hI
 have HZ0 := jD (show (w.alloc (.cells #[.int .i64 (c : Int)] 3)).heap.size = w.heap.size + 1 by simp)
 have hPX : P ≠ w.heap.size := by omega
 clear h n0 hT hI
 unfold ptr
 go_enter Tryz.func58, Tryz.ntmps58
 go_wp2_with fail
 go_quiet (fail)
 have hMd := HM0.out.below (below_drewN (Below.refl _ _) nq)
 have hBd := below_drewN HB0.out nq
 have hXd : ((w.alloc (.cells #[.int .i64 (c : Int)] 3)).drewN nq).cell? ⟨w.heap.size, 0, none⟩ = some (.int .i64 (c : Int)) := by simp
 have hZd : ((w.alloc (.cells #[.int .i64 (c : Int)] 3)).drewN nq).heap.size = w.heap.size + 1 := by simp
 obtain ⟨X, HXX⟩ : ∃ X, Hid (w.heap.size = X) := ⟨_, jD rfl⟩
 obtain ⟨W, HW⟩ : ∃ u, Hid ((w.alloc (.cells #[.int .i64 (c : Int)] 3)).drewN nq = u) := ⟨_, jD rfl⟩
 rw [HW.out] at hMd hBd hXd hZd ⊢
 rw [HXX.out] at hXd hZd HFX ⊢
 clear HW x0 HX0 HM0 HB0 HZ0 hPX
 have HM := jD hMd
 have HB := jD hBd
 have HX := jD hXd
 have hXl : X < W.heap.size := by omega
 clear hMd hBd hXd hZd HXX
 have HST := jD (state_any W HM.out HI.out.ok HI.out.plen hc)
 unfold ptr at HST
 go_wp2_with fail
 refine HST.out.mono ?_
 rintro e w1 ⟨rfl, n1, hw1⟩
 have hMd := HM.out.below (show Below W.heap.size W w1 by rw [hw1]; exact below_drewN (Below.refl _ _) n1)
 have hBd := HB.out.trans (show Below base W w1 by rw [hw1]; exact below_drewN (Below.refl _ _) n1)
 have hXd : w1.cell? ⟨X, 0, none⟩ = some (.int .i64 (c : Int)) := by rw [hw1]; simpa using HX.out
 have hXl1 : X < w1.heap.size := by rw [hw1]; simpa using hXl
 clear hw1 HST HM HB HX hXl
 have HM := jD hMd
 have HB := jD hBd
 have HX := jD hXd
 have hP1 := hMd.row.lt
 have a2 := hMd.row.cell (j := 4 + c * 6 + 2) (by omega)
 have a3 := hMd.row.cell (j := 4 + c * 6 + 3) (by omega)
 rw [hMd.has c hc] at a2
 obtain ⟨q, hq, hqs⟩ := hMd.srv c hc
 rw [hq] at a3
 cases hs : (m.get c).srv with
 | none =>
  have HE := jD (leave_none hs)
  have HNK := jD (And.intro HI.out.ok.n6 HI.out.klen)
  have HL := jD HI.out.line
  rw [hs] at a2
  simp only [Option.isSome] at a2
  have hst : m.e.state none = 0 := rfl
  rw [hst]
  clear hMd hBd hXd hqs hs hq hst a3
  have q0 := HM.out.row.cell (j := 40) (by omega)
  obtain ⟨A4, c4, hf4, hc4⟩ := HM.out.lineSl.shape
  have HD := jD (delQ_any w1 HM.out HL.out HFX.out hXl1 HX.out)
  rw [hf4] at q0 HD
  have HF4 := jD hf4
  clear hf4 hc4
  generalize m.line.length = nl at *
  go_wp2_with fail
  refine HD.out.mono ?_
  rintro e w5 ⟨A5, n5, q5, rfl, hP5, hc5, hz5, hM5, hB5⟩
  rw [HF4.out] at hc5
  have r0 := hM5.row
  have k0 := r0.cell (j := 4 + c * 6) (by omega)
  have z0 := r0.frozen (4 + c * 6)
  have r1 := r0.set (4 + c * 6) (.string ⟨#[]⟩)
  have k1 := r1.cell (j := 4 + c * 6 + 1) (by omega)
  have z1 := r1.frozen (4 + c * 6 + 1)
  have r2 := r1.set (4 + c * 6 + 1) (.slice none 0 0)
  have k2 := r2.cell (j := 4 + c * 6 + 2) (by omega)
  have z2 := r2.frozen (4 + c * 6 + 2)
  have r3 := r2.set (4 + c * 6 + 2) (.bool false)
  have k3 := r3.cell (j := 4 + c * 6 + 3) (by omega)
  have z3 := r3.frozen (4 + c * 6 + 3)
  have r4 := r3.set (4 + c * 6 + 3) (.int .i64 0)
  have k4 := r4.cell (j := 4 + c * 6 + 4) (by omega)
  have z4 := r4.frozen (4 + c * 6 + 4)
  have r5 := r4.set (4 + c * 6 + 4) (.slice none 0 0)
  have k5 := r5.cell (j := 4 + c * 6 + 5) (by omega)
  have z5 := r5.frozen (4 + c * 6 + 5)
  have hM6 := hM5.clear hc HNK.out.1 HNK.out.2
  unfold set6 at hM6
  have hB6 := ((((((((HB.out.trans hB5).setCell (p := ⟨P, 40, none⟩) hbP (.slice A5 n5 q5)).setCell (p := ⟨P, 4 + c * 6, none⟩) hbP (.string ⟨#[]⟩)).setCell (p := ⟨P, 4 + c * 6 + 1, none⟩) hbP (.slice none 0 0)).setCell (p := ⟨P, 4 + c * 6 + 2, none⟩) hbP (.bool false)).setCell (p := ⟨P, 4 + c * 6 + 3, none⟩) hbP (.int .i64 0)).setCell (p := ⟨P, 4 + c * 6 + 4, none⟩) hbP (.slice none 0 0)).setCell (p := ⟨P, 4 + c * 6 + 5, none⟩) hbP (.slice none 0 0))
  have e6 : ({ ({ m with line := m.line.filter (fun k => k != c) } : Mach PE) with cl := m.cl.set c Cl.new, e := ⟨m.e.w, m.e.kept.set c ([], [])⟩ } : Mach PE) = m.leave poolO c := HE.out
  have HF6 := jD (And.intro hM6 hB6)
  clear hM5 hB5 hM6 hB6 r0 r1 r2 r3 r4 r5 HD q0
  go_wp2
  go_end0
  rw [← e6]
  exact ⟨_, _, rfl, HF6.out.1, HF6.out.2⟩
 | some s =>
  obtain rfl := hqs s hs
  have hok := HI.out.w
  have hlt := HI.out.srvlt hs
  rw [hs] at a2
  simp only [Option.isSome] at a2
  have hst : m.e.state (some s) = (m.e.w.at s).st := rfl
  rw [hst]
  by_cases h0 : (m.e.w.at s).st = 0
  ·have hRl := release_keeps w1 hMd HI.out.ok HI.out.plen HI.out.klen hc hs
   have hE := leave_some hs (W1 := m.e.w) (by rw [if_neg (by simp [h0])]) _ rfl
   have hn6 : (m.release poolO c s).cl.length = 6 := by show (m.cl.set c _).length = 6; rw [List.length_set]; exact HI.out.ok.n6
   have hk6 : (m.release poolO c s).e.kept.length = 6 := by show (m.e.kept.set c _).length = 6; rw [List.length_set]; exact HI.out.klen
   have hL6 : (m.release poolO c s).line.length ≤ 6 := HI.out.line
   have hem : ({ m with e := ⟨m.e.w, m.e.kept⟩ } : Mach PE) = m := rfl
   rw [hem] at hE
   obtain ⟨m2, HM2⟩ : ∃ u, Hid (m.release poolO c s = u) := ⟨_, jD rfl⟩
   rw [HM2.out] at hRl hE hn6 hk6 hL6
   have HE := jD hE
   have HRL := jD hRl
   have HNK := jD (And.intro hn6 hk6)
   have HL := jD hL6
   rw [h0]
   unfold ptr at HRL
   clear hMd hBd hXd hqs hs hq hst a3 hRl hE hn6 hk6 hL6 hok hlt hem h0
   go_wp2_with fail
   refine HRL.out.mono ?_
   rintro e w2 ⟨f2, rfl, hM2, hB2, hK2⟩
   have hX2 := (World.cell?_of_block (a := ⟨X, 0, none⟩) (hK2.2 X hXl1 HFX.out)).trans HX.out
   have hXl2 : X < w2.heap.size := Nat.lt_of_lt_of_le hXl1 hK2.1
   have hBB := HB.out.trans hB2
   clear HM HB HX HRL hK2 hB2 a2 hP1
   have HM := jD hM2
   have HB := jD hBB
   have HX := jD hX2
   have hP1 := hM2.row.lt
   clear hM2 hBB hX2
   have q0 := HM.out.row.cell (j := 40) (by omega)
   obtain ⟨A4, c4, hf4, hc4⟩ := HM.out.lineSl.shape
   have HD := jD (delQ_any w2 HM.out HL.out HFX.out hXl2 HX.out)
   rw [hf4] at q0 HD
   have HF4 := jD hf4
   clear hf4 hc4
   generalize m2.line.length = nl at *
   go_wp2_with fail
   refine HD.out.mono ?_
   rintro e w5 ⟨A5, n5, q5, rfl, hP5, hc5, hz5, hM5, hB5⟩
   rw [HF4.out] at hc5
   have r0 := hM5.row
   have k0 := r0.cell (j := 4 + c * 6) (by omega)
   have z0 := r0.frozen (4 + c * 6)
   have r1 := r0.set (4 + c * 6) (.string ⟨#[]⟩)
   have k1 := r1.cell (j := 4 + c * 6 + 1) (by omega)
   have z1 := r1.frozen (4 + c * 6 + 1)
   have r2 := r1.set (4 + c * 6 + 1) (.slice none 0 0)
   have k2 := r2.cell (j := 4 + c * 6 + 2) (by omega)
   have z2 := r2.frozen (4 + c * 6 + 2)
   have r3 := r2.set (4 + c * 6 + 2) (.bool false)
   have k3 := r3.cell (j := 4 + c * 6 + 3) (by omega)
   have z3 := r3.frozen (4 + c * 6 + 3)
   have r4 := r3.set (4 + c * 6 + 3) (.int .i64 0)
   have k4 := r4.cell (j := 4 + c * 6 + 4) (by omega)
   have z4 := r4.frozen (4 + c * 6 + 4)
   have r5 := r4.set (4 + c * 6 + 4) (.slice none 0 0)
   have k5 := r5.cell (j := 4 + c * 6 + 5) (by omega)
   have z5 := r5.frozen (4 + c * 6 + 5)
   have hM6 := hM5.clear hc HNK.out.1 HNK.out.2
   unfold set6 at hM6
   have hB6 := ((((((((HB.out.trans hB5).setCell (p := ⟨P, 40, none⟩) hbP (.slice A5 n5 q5)).setCell (p := ⟨P, 4 + c * 6, none⟩) hbP (.string ⟨#[]⟩)).setCell (p := ⟨P, 4 + c * 6 + 1, none⟩) hbP (.slice none 0 0)).setCell (p := ⟨P, 4 + c * 6 + 2, none⟩) hbP (.bool false)).setCell (p := ⟨P, 4 + c * 6 + 3, none⟩) hbP (.int .i64 0)).setCell (p := ⟨P, 4 + c * 6 + 4, none⟩) hbP (.slice none 0 0)).setCell (p := ⟨P, 4 + c * 6 + 5, none⟩) hbP (.slice none 0 0))
   have e6 : ({ ({ m2 with line := m2.line.filter (fun k => k != c) } : Mach PE) with cl := m2.cl.set c Cl.new, e := ⟨m2.e.w, m2.e.kept.set c ([], [])⟩ } : Mach PE) = m.leave poolO c := HE.out
   have HF6 := jD (And.intro hM6 hB6)
   clear hM5 hB5 hM6 hB6 r0 r1 r2 r3 r4 r5 HD q0
   go_wp2
   go_end0
   rw [← e6]
   exact ⟨_, _, rfl, HF6.out.1, HF6.out.2⟩
  ·have hr3 : Req.ok ⟨3, ⟨#[]⟩, ⟨#[]⟩⟩ := small_ok (n := 3) (by omega) (by omega)
   have hDo := doP_any w1 hMd (HT.out.below hBd) hok s hlt ⟨3, ⟨#[]⟩, ⟨#[]⟩⟩ hr3
   have hd := doR_ok hok hlt hr3
   have hE := leave_some hs (W1 := (doR m.e.w s ⟨3, ⟨#[]⟩, ⟨#[]⟩⟩).1) (by rw [if_pos h0]) _ rfl
   obtain ⟨R, HR⟩ : ∃ u, Hid (doR m.e.w s ⟨3, ⟨#[]⟩, ⟨#[]⟩⟩ = u) := ⟨_, jD rfl⟩
   rw [HR.out] at hDo hd hE
   have hok1 : MOk mode ({ m with e := ⟨R.1, m.e.kept⟩ } : Mach PE) := HI.out.ok.same rfl rfl rfl HI.out.ok.s6
   have hpl1 : R.1.ss.length = m.busy.length := hd.2.trans HI.out.plen
   have HRL := jD (fun w2 f2 (hM : PMem 0 w2 base P f2 G mode { m with e := ⟨R.1, m.e.kept⟩ }) => release_keeps w2 hM hok1 hpl1 HI.out.klen hc (s := s) hs)
   have hn6 : (Mach.release poolO ({ m with e := ⟨R.1, m.e.kept⟩ } : Mach PE) c s).cl.length = 6 := by show (m.cl.set c _).length = 6; rw [List.length_set]; exact HI.out.ok.n6
   have hk6 : (Mach.release poolO ({ m with e := ⟨R.1, m.e.kept⟩ } : Mach PE) c s).e.kept.length = 6 := by show (m.e.kept.set c _).length = 6; rw [List.length_set]; exact HI.out.klen
   have hL6 : (Mach.release poolO ({ m with e := ⟨R.1, m.e.kept⟩ } : Mach PE) c s).line.length ≤ 6 := HI.out.line
   have hhs : ∀ c, c < 6 → (Mach.get ({ m with e := ⟨R.1, m.e.kept⟩ } : Mach PE) c).srv = (m.get c).srv := fun _ _ => rfl
   obtain ⟨m2, HM2⟩ : ∃ u, Hid (Mach.release poolO ({ m with e := ⟨R.1, m.e.kept⟩ } : Mach PE) c s = u) := ⟨_, jD rfl⟩
   rw [HM2.out] at HRL hE hn6 hk6 hL6
   have HE := jD hE
   have HNK := jD (And.intro hn6 hk6)
   have HL := jD hL6
   have HDO := jD hDo
   have HS := jD hs
   have hne : (((m.e.w.at s).st) != (0 : Int)) = true := bne_iff_ne.2 h0
   generalize (m.e.w.at s).st = st at *
   unfold ptr at HRL HDO
   clear hMd hBd hXd hqs hs hq hst hE hn6 hk6 hL6 hok hlt h0 hDo hd hok1 hpl1 hhs
   go_wp2_with fail
   refine HDO.out.mono ?_
   rintro e wd ⟨fd, rfl, hMd, hBd, hKd⟩
   have hXd := (World.cell?_of_block (a := ⟨X, 0, none⟩) (hKd.2 X hXl1 (fun e => HFX.out 0 (by rw [hMd.p0, e])))).trans HX.out
   have hXld : X < wd.heap.size := Nat.lt_of_lt_of_le hXl1 hKd.1
   have hBB := HB.out.trans hBd
   have hsd := hMd.has c hc
   have hRd := HRL.out wd fd hMd
   have ad2 := hMd.row.cell (j := 4 + c * 6 + 2) (by omega)
   have hPd := hMd.row.lt
   have hsd2 : (Mach.get ({ m with e := ⟨R.1, m.e.kept⟩ } : Mach PE) c).srv = some s := HS.out
   rw [hsd, hsd2] at ad2
   simp only [Option.isSome] at ad2
   clear HM HB HX HRL HDO hKd hBd a2 a3 hP1 hsd hsd2 hMd
   have HB := jD hBB
   have HX := jD hXd
   have HRD := jD hRd
   clear hBB hXd hRd
   go_wp2_with fail
   refine HRD.out.mono ?_
   rintro e w2 ⟨f2, rfl, hM2, hB2, hK2⟩
   have hX2 := (World.cell?_of_block (a := ⟨X, 0, none⟩) (hK2.2 X hXld HFX.out)).trans HX.out
   have hXl2 : X < w2.heap.size := Nat.lt_of_lt_of_le hXld hK2.1
   have hBB := HB.out.trans hB2
   clear HB HX HRD hK2 hB2 ad2 hPd
   have HM := jD hM2
   have HB := jD hBB
   have HX := jD hX2
   have hP1 := hM2.row.lt
   clear hM2 hBB hX2
   have q0 := HM.out.row.cell (j := 40) (by omega)
   obtain ⟨A4, c4, hf4, hc4⟩ := HM.out.lineSl.shape
   have HD := jD (delQ_any w2 HM.out HL.out HFX.out hXl2 HX.out)
   rw [hf4] at q0 HD
   have HF4 := jD hf4
   clear hf4 hc4
   generalize m2.line.length = nl at *
   go_wp2_with fail
   refine HD.out.mono ?_
   rintro e w5 ⟨A5, n5, q5, rfl, hP5, hc5, hz5, hM5, hB5⟩
   rw [HF4.out] at hc5
   have r0 := hM5.row
   have k0 := r0.cell (j := 4 + c * 6) (by omega)
   have z0 := r0.frozen (4 + c * 6)
   have r1 := r0.set (4 + c * 6) (.string ⟨#[]⟩)
   have k1 := r1.cell (j := 4 + c * 6 + 1) (by omega)
   have z1 := r1.frozen (4 + c * 6 + 1)
   have r2 := r1.set (4 + c * 6 + 1) (.slice none 0 0)
   have k2 := r2.cell (j := 4 + c * 6 + 2) (by omega)
   have z2 := r2.frozen (4 + c * 6 + 2)
   have r3 := r2.set (4 + c * 6 + 2) (.bool false)
   have k3 := r3.cell (j := 4 + c * 6 + 3) (by omega)
   have z3 := r3.frozen (4 + c * 6 + 3)
   have r4 := r3.set (4 + c * 6 + 3) (.int .i64 0)
   have k4 := r4.cell (j := 4 + c * 6 + 4) (by omega)
   have z4 := r4.frozen (4 + c * 6 + 4)
   have r5 := r4.set (4 + c * 6 + 4) (.slice none 0 0)
   have k5 := r5.cell (j := 4 + c * 6 + 5) (by omega)
   have z5 := r5.frozen (4 + c * 6 + 5)
   have hM6 := hM5.clear hc HNK.out.1 HNK.out.2
   unfold set6 at hM6
   have hB6 := ((((((((HB.out.trans hB5).setCell (p := ⟨P, 40, none⟩) hbP (.slice A5 n5 q5)).setCell (p := ⟨P, 4 + c * 6, none⟩) hbP (.string ⟨#[]⟩)).setCell (p := ⟨P, 4 + c * 6 + 1, none⟩) hbP (.slice none 0 0)).setCell (p := ⟨P, 4 + c * 6 + 2, none⟩) hbP (.bool false)).setCell (p := ⟨P, 4 + c * 6 + 3, none⟩) hbP (.int .i64 0)).setCell (p := ⟨P, 4 + c * 6 + 4, none⟩) hbP (.slice none 0 0)).setCell (p := ⟨P, 4 + c * 6 + 5, none⟩) hbP (.slice none 0 0))
   have e6 : ({ ({ m2 with line := m2.line.filter (fun k => k != c) } : Mach PE) with cl := m2.cl.set c Cl.new, e := ⟨m2.e.w, m2.e.kept.set c ([], [])⟩ } : Mach PE) = m.leave poolO c := HE.out
   have HF6 := jD (And.intro hM6 hB6)
   clear hM5 hB5 hM6 hB6 r0 r1 r2 r3 r4 r5 HD q0
   go_wp2
   go_end0
   rw [← e6]
   exact ⟨_, _, rfl, HF6.out.1, HF6.out.2⟩
end
set_option maxHeartbeats 1000000 in
theorem request_any (k : UInt8) (t : ByteArray) (w : World) (hW : Words w) :
  Calls Tryz.prog 70 #[.int .u8 k.toNat, .string t] w fun e w' => e = .returned (.agg #[.int .i64 (reqOf k t).k, .string (reqOf k t).key, .string (reqOf k t).val]) ∧ Below w.heap.size w w' := by
 have HW := jD hW
 have n0 := (Below.refl w.heap.size w).alloc (nL _) (.cells #[.int .i64 0, .string ⟨#[]⟩, .string ⟨#[]⟩] 36)
 have HN := jD n0
 have X0 := RowTo.whole w #[.int .i64 0, .string ⟨#[]⟩, .string ⟨#[]⟩] 36
 obtain ⟨x0, x1, x2⟩ := cells3 X0
 clear n0 hW
 by_cases hk : k = 81
 case neg =>
  have hki : ((k.toNat : Int) != 81) = true := bne_iff_ne.2 (fun h => hk (UInt8.toNat_inj.1 (by show k.toNat = 81; omega)))
  have HE := jD (show reqOf k t = Req.none_ by unfold reqOf; rw [if_neg (fun h => hk h.1)])
  clear X0
  go_enter Tryz.func70, Tryz.ntmps70
  go_wp2
  refine bodyPost_ret (v := .agg #[.int .i64 0, .string ⟨#[]⟩, .string ⟨#[]⟩]) (by simp [results, Tryz.results70, go_sem, x0, x1, x2]) rfl ⟨by rw [HE.out]; rfl, HN.out⟩
 obtain ⟨q, HQ⟩ : ∃ q, Hid (reqOf k t = q) := ⟨_, jD rfl⟩
 have HRD : Hid (∀ wc : World, Words wc → Calls Tryz.prog 84 #[.string t] wc fun e w' => ∃ er, e = .returned (.tuple #[.agg #[.int .i64 q.k, .string q.key, .string q.val], .int .i64 er]) ∧ Below wc.heap.size wc w') := jD fun wc hw => by
  rw [← HQ.out]
  by_cases hr : readE t = 0
  ·refine (read_ok t wc hw hr).mono ?_
   rintro e w' ⟨rfl, hb⟩
   unfold reqOf
   rw [if_pos ⟨hk, hr⟩]
   exact ⟨_, rfl, hb⟩
  ·refine (read_no t wc hw hr).mono ?_
   rintro e w' ⟨rfl, hb⟩
   unfold reqOf
   rw [if_neg (fun h => hr h.2)]
   exact ⟨_, rfl, hb⟩
 rw [HQ.out]
 subst hk
 have hki : (((81 : UInt8).toNat : Int) != 81) = false := by decide
 clear HQ x0 x1 x2
 have HX0 := jD X0
 clear X0
 go_enter Tryz.func70, Tryz.ntmps70
 go_wp2_with fail
 refine (HRD.out _ (HW.out.below HN.out)).mono ?_
 rintro e w1 ⟨er, rfl, hb1⟩
 have X1 := (HX0.out.below hb1 HX0.out.lt).alloc (.cells #[.int .i64 q.k, .string q.key, .string q.val] 36)
 have hz := hb1.size
 simp only [World.size_alloc] at hz
 obtain ⟨x0, x1, x2⟩ := cells3 X1
 have f0 := X1.frozen 0
 have f1 := X1.frozen 1
 have f2 := X1.frozen 2
 have HB := jD (bel_set3 ((bel_add' HN.out hb1 HN.out.size).alloc (by omega) (.cells #[.int .i64 q.k, .string q.key, .string q.val] 36)) (nL w.heap.size) (.int .i64 q.k) (.string q.key) (.string q.val))
 have X2 := X1.set3 (.int .i64 q.k) (.string q.key) (.string q.val)
 obtain ⟨y0, y1, y2⟩ := cells3 X2
 clear X1 X2 hb1 HX0
 go_wp2
 refine bodyPost_ret (v := .agg #[.int .i64 q.k, .string q.key, .string q.val]) (by simp [results, Tryz.results70, go_sem, x0, x1, x2, y0, y1, y2]) rfl ⟨rfl, HB.out⟩
theorem stmt_row : (Tryz.prog.info? 36).map (fun i => (i.zero, i.size, i.bytes)) = some (some (.agg #[.int .i64 0, .string ⟨#[]⟩, .string ⟨#[]⟩]), 3, 40) := by kernel_rfl
theorem exec_stmts {ev : Operand → Value} {o : Oper} {x : Operand} {k : Int} {key val : ByteArray} (ho : o.op = .buildSlice 87 1 #[(0, x)]) (hx : ev x = .agg #[.int .i64 k, .string key, .string val]) (w : World) :
  (execOp ev o).run Tryz.prog w = .ok (.value (.slice (some ⟨w.heap.size, 0, none⟩) 1 1)) (w.alloc (.cells #[.int .i64 k, .string key, .string val] 36)) := by
 unfold execOp
 simp only [ho, Sem.run_bind, Sem.run_pure, List.map_toArray, List.map_cons, List.map_nil, hx]
 go_simp
def pullV (s : ByteArray) : Value := match pull s with
 | none => .tuple #[.int .u8 0, .string ⟨#[]⟩, .int .i64 0]
 | some (k, t, j) => .tuple #[.int .u8 k.toNat, .string t, .int .i64 (j : Int)]
theorem unpack_any (s : ByteArray) (w : World) (hs : s.size ≤ maxLen) : Calls Tryz.prog 17 #[.string s] w fun e w' => e = .returned (pullV s) ∧ Below w.heap.size w w' := by
 unfold pullV pull
 by_cases h2 : 2 ≤ s.size
 ·rw [dif_pos h2]
  by_cases h : 2 + s[1].toNat ≤ s.size
  ·rw [if_pos h]
   refine (unpack_ok s w hs h2 h).mono ?_
   rintro e w' ⟨rfl, hb⟩
   exact ⟨rfl, hb⟩
  ·rw [if_neg h]
   refine (unpack_cut s w hs h2 (by omega)).mono ?_
   rintro e w' ⟨rfl, rfl⟩
   exact ⟨rfl, Below.refl _ _⟩
 ·rw [dif_neg h2]
  refine (unpack_two s w (by omega)).mono ?_
  rintro e w' ⟨rfl, rfl⟩
  exact ⟨rfl, Below.refl _ _⟩
section
variable {base P : Nat} {f : Nat → Value} {G : Nat → Option Nat} {mode : Int} {m : Mach PE} {N : Nat}
theorem PMem.waited {w : World} (h : PMem 0 w base P f G mode m) (hcl : m.cl.length = 6) {c : Nat} (hc : c < 6) (hl : (m.get c).wait.length ≤ 300000) {ad : Nat} (r : Req) (hx : ∀ j u, (reqV r)[j]? = some u → w.cell? ⟨ad, j, none⟩ = some u) :
  ∃ b off cap n w', (Builtin.append_ #[87, 87] 87 #[f (4 + c * 6 + 1), .slice (some ⟨ad, 0, none⟩) 1 1]).run Tryz.prog w = .ok (.slice (some ⟨b, off, none⟩) n cap) w' ∧ w'.cell? ⟨P, 4 + c * 6 + 1, none⟩ = some (f (4 + c * 6 + 1)) ∧ w'.frozen? ⟨P, 4 + c * 6 + 1, none⟩ = false ∧ P < w'.heap.size ∧
   PMem 0 (w'.setCell ⟨P, 4 + c * 6 + 1, none⟩ (.slice (some ⟨b, off, none⟩) n cap)) base P (upd f (4 + c * 6 + 1) (.slice (some ⟨b, off, none⟩) n cap)) (upd G (2 + c) (some b)) mode (m.set c { m.get c with wait := (m.get c).wait ++ [r] }) ∧ Below base w (w'.setCell ⟨P, 4 + c * 6 + 1, none⟩ (.slice (some ⟨b, off, none⟩) n cap)) := by
 have hc' : c < m.cl.length := by omega
 have e1 : slC (2 + c) = 4 + c * 6 + 1 := by unfold slC; rw [if_neg (by omega), if_pos (by omega)]; omega
 have e2 : slT (2 + c) = 36 := by unfold slT; rw [if_neg (by omega), if_pos (by omega)]
 have e3 : slZ (2 + c) = 3 := by unfold slZ; rw [if_neg (by omega), if_pos (by omega)]
 obtain ⟨i0, hi, hz0, hz1, hz2⟩ := info_parts stmt_row
 have hbP := (h.lo 0 P h.p0).1
 have hbase : base ≤ w.heap.size := Nat.le_trans hbP (Nat.le_of_lt h.row.lt)
 obtain ⟨b, off, cap, w', hrun, hs, hg, hb⟩ := (h.waitSl hc).append (P := Tryz.prog) 87 87 i0 _ 40 Tryz.underlying87 hi hz0 hz1 hz2 rfl (by omega) ⟨ad, 0, none⟩ 1 (reqV r) rfl (fun j u hu => by rw [Addr.add_lit, Nat.zero_add]; exact hx j u hu) (fun u hu => by
  simp only [reqV, List.mem_cons, List.not_mem_nil, or_false] at hu
  rcases hu with rfl | rfl | rfl <;> rfl) (by unfold maxLen; omega) (by omega)
 have hne : some P ≠ G (2 + c) := fun e => h.noP (k := 2 + c) (by omega) e.symm
 have hP' := hg.block P h.row.lt hne
 have hgc : ((m.set c { m.get c with wait := (m.get c).wait ++ [r] }).get c).wait = (m.get c).wait ++ [r] := by rw [get_set hc', if_pos rfl]
 have hgr := h.grow' (k := 2 + c) (m' := m.set c { m.get c with wait := (m.get c).wait ++ [r] }) (n' := (m.get c).wait.length + 1) (v := .slice (some ⟨b, off, none⟩) ((m.get c).wait.length + 1) cap) (b := b) (by omega) (by omega) hbase hg (by rw [e2, e3]; exact hs) hb (by rw [items_wait _ hc, hgc]; simp) (by rw [items_wait _ hc, hgc, List.map_append, List.flatten_append]; simp) (fun k h1 _ hk => items_wset hc' h1 hk) rfl (fun d => ?_) (fun d => ?_)
 ·rw [e1] at hgr
  exact ⟨b, off, cap, _, w', hrun, (World.cell?_of_block (a := ⟨P, 4 + c * 6 + 1, none⟩) hP').trans (h.row.cell (j := 4 + c * 6 + 1) (by omega)), (World.frozen?_of_block (a := ⟨P, 4 + c * 6 + 1, none⟩) hP').trans (h.row.frozen _), Nat.lt_of_lt_of_le h.row.lt hg.size, hgr, ((Below.refl base w).grown hg hbase (fun x hx => (h.lo _ _ hx).1)).setCell hbP _⟩
 ·rw [get_set hc']; split
  ·rename_i e; rw [e]
  ·rfl
 ·rw [get_set hc']; split
  ·rename_i e; rw [e]
  ·rfl
theorem set_both {c : Nat} (hc : c < m.cl.length) (b : ByteArray) (r : Req) : (m.set c { m.get c with bytes := b }).set c { (m.set c { m.get c with bytes := b }).get c with wait := ((m.set c { m.get c with bytes := b }).get c).wait ++ [r] } = m.set c { m.get c with bytes := b, wait := (m.get c).wait ++ [r] } := by
 rw [get_set hc, if_pos rfl]
 unfold Mach.set
 simp
theorem feed_none {c n : Nat} (hp : pull (m.get c).bytes = none) : m.feed poolO mode (n + 1) c = m := by rw [Mach.feed, hp]
theorem feed_bye {c n : Nat} {t : ByteArray} {j : Nat} (hp : pull (m.get c).bytes = some (88, t, j)) : m.feed poolO mode (n + 1) c = (m.all poolO mode).leave poolO c := by
 rw [Mach.feed, hp]
 simp only
 rw [if_pos trivial]
theorem feed_req {c n : Nat} {k : UInt8} {t : ByteArray} {j : Nat} (hp : pull (m.get c).bytes = some (k, t, j)) (hk : k ≠ 88) : m.feed poolO mode (n + 1) c = (m.set c { m.get c with bytes := (m.get c).bytes.extract j (m.get c).bytes.size, wait := (m.get c).wait ++ [reqOf k t] }).feed poolO mode n c := by
 rw [Mach.feed, hp]
 simp only
 rw [if_neg hk]
def DlvRel (w : World) (base P c N : Nat) (mode : Int) (q : Mach PE) (gg : Nat) (wr : World) : Prop :=
 ∃ m1 f1 G1 n, (m1.get c).bytes.size ≤ gg ∧ (m1.get c).bytes.size < n ∧ m1.feed poolO mode n c = q ∧ PMem 0 wr base P f1 G1 mode m1 ∧ Inv mode m1 N ∧ m1.busy.length ≤ 8 ∧ Below base w wr
set_option maxHeartbeats 2000000 in
theorem deliver_any (w : World) (h : PMem 0 w base P f G mode m) (hT : Tabs w base) (hI : Inv mode m N) {c : Nat} (hc : c < 6) (data : ByteArray) (hN : N + data.size ≤ 300000) (hbl : m.busy.length ≤ 8) :
  Calls Tryz.prog 57 #[ptr P 0, .int .i64 (c : Int), .string data] w (PPost w base P mode (m.deliver poolO mode c data)) := by
 have hP := h.row.lt
 have hbP := (h.lo 0 P h.p0).1
 have hcI : (c : Int) < 6 := by omega
 have hwN := hI.waits (N := N) (by omega) c
 have b0 := h.row.cell (j := 4 + c * 6) (by omega)
 rw [h.bytes c hc] at b0
 have z0 := h.row.frozen (4 + c * 6)
 have hM1 := h.setBytes hc hI.ok.n6 ((m.get c).bytes ++ data)
 have hB1 := (Below.refl base w).setCell (p := ⟨P, 4 + c * 6, none⟩) hbP (.string ((m.get c).bytes ++ data))
 have hI1 := hI.bytes hc data
 have hsum : ¬ (9223372036854775807 < (m.get c).bytes.size + data.size) := by omega
 have hgb : ((m.set c { m.get c with bytes := (m.get c).bytes ++ data }).get c).bytes = (m.get c).bytes ++ data := by rw [get_set (by rw [hI.ok.n6]; exact hc), if_pos rfl]
 have H1 : Hid (DlvRel w base P c (N + data.size) mode (m.deliver poolO mode c data) ((m.get c).bytes.size + data.size) (w.setCell ⟨P, 4 + c * 6, none⟩ (.string ((m.get c).bytes ++ data)))) := jD ⟨_, _, _, (m.get c).bytes.size + data.size + 1, by rw [hgb, ByteArray.size_append]; exact nL _, by rw [hgb, ByteArray.size_append]; exact Nat.lt_succ_self _, rfl, hM1, hI1, hbl, hB1⟩
 have HT := jD hT
 obtain ⟨q, HQ⟩ : ∃ q, Hid (m.deliver poolO mode c data = q) := ⟨_, jD rfl⟩
 rw [HQ.out] at H1 ⊢
 obtain ⟨gs, HGS⟩ : ∃ q, Hid ((m.get c).bytes.size + data.size = q) := ⟨_, jD rfl⟩
 rw [HGS.out] at H1
 generalize (m.get c).bytes = bs at *
 clear h hT hI hM1 hB1 hI1 hgb HQ hwN hbl HGS
 unfold ptr
 go_enter Tryz.func57, Tryz.ntmps57
 go_wp2_with fail
 go_loopg [24] gs (fun gg _ wr => Hid (DlvRel w base P c (N + data.size) mode q gg wr))
 case atStart => exact H1.out
 case round =>
  obtain ⟨m1, f1, G1, n, hgg, hn, hfd, hM, hI, hb8, hB⟩ := hrel.out
  clear hrel H1 b0 z0 hsum hP
  have hP := hM.row.lt
  have hwN := hI.waits hN c
  have b0 := hM.row.cell (j := 4 + c * 6) (by omega)
  rw [hM.bytes c hc] at b0
  have z0 := hM.row.frozen (4 + c * 6)
  obtain ⟨n, rfl⟩ : ∃ k, n = k + 1 := ⟨n - 1, by omega⟩
  have HU := jD (fun wc => unpack_any (m1.get c).bytes wc (by unfold maxLen; omega))
  have HM := jD hM
  have HI := jD hI
  have HB := jD hB
  have HT1 := jD (HT.out.below hB)
  have hbase : base ≤ wr.heap.size := Nat.le_trans hbP (Nat.le_of_lt hP)
  cases hp : pull (m1.get c).bytes with
  | none =>
   have HE := jD ((feed_none (n := n) (mode := mode) hp).symm.trans hfd)
   have hV : pullV (m1.get c).bytes = .tuple #[.int .u8 0, .string ⟨#[]⟩, .int .i64 0] := by unfold pullV; rw [hp]
   rw [hV] at HU
   generalize (m1.get c).bytes = bs1 at *
   clear hM hI hB hfd hp hV hgg hn
   go_wp2_with fail
   refine (HU.out _).mono ?_
   rintro e w1 ⟨rfl, hb1⟩
   have HF := jD (And.intro (HM.out.below hb1) (HB.out.trans (hb1.mono hbase)))
   clear hb1 HU b0 z0
   go_wp2
   go_end0
   rw [← HE.out]
   exact ⟨_, _, rfl, HF.out.1, HF.out.2⟩
  | some pr =>
   obtain ⟨k, t, j⟩ := pr
   have hj := pull_j hp
   have hV : pullV (m1.get c).bytes = .tuple #[.int .u8 k.toNat, .string t, .int .i64 (j : Int)] := by unfold pullV; rw [hp]
   rw [hV] at HU
   have hj0 : ((j : Int) == 0) = false := beq_eq_false_iff_ne.2 (by omega)
   by_cases hk : k = 88
   ·subst hk
    have HE := jD ((feed_bye (n := n) (mode := mode) hp).symm.trans hfd)
    generalize (m1.get c).bytes = bs1 at *
    clear hM hI hB hfd hp hV hgg hn hwN hj
    have hk8 : (((88 : UInt8).toNat : Int) == 88) = true := by decide
    go_wp2_with fail
    refine (HU.out _).mono ?_
    rintro e w1 ⟨rfl, hb1⟩
    have HF := jD (And.intro (HM.out.below hb1) (And.intro (HB.out.trans (hb1.mono hbase)) (HT1.out.below (hb1.mono hbase))))
    clear hb1 HU b0 z0
    have HA := jD (all_any w1 HF.out.1 HF.out.2.2 HI.out hN hb8)
    unfold ptr at HA
    go_wp2_with fail
    refine HA.out.mono ?_
    rintro e w2 ⟨f2, G2, rfl, hM2, hB2⟩
    have HL := jD (leave_any w2 hM2 (HF.out.2.2.below hB2) HI.out.all hc)
    have HB2 := jD (HF.out.2.1.trans hB2)
    unfold ptr at HL
    clear hM2 hB2 HA
    go_wp2_with fail
    refine HL.out.mono ?_
    rintro e w3 ⟨f3, G3, rfl, hM3, hB3⟩
    have HF3 := jD (And.intro hM3 (HB2.out.trans hB3))
    clear hM3 hB3 HL
    go_wp2
    go_end0
    rw [← HE.out]
    exact ⟨_, _, rfl, HF3.out.1, HF3.out.2⟩
   ·have hk8 : ((k.toNat : Int) == 88) = false := beq_eq_false_iff_ne.2 (fun e => hk (UInt8.toNat_inj.1 (by show k.toNat = 88; omega)))
    have hc1 : c < m1.cl.length := by rw [hI.ok.n6]; exact hc
    have HE := jD ((feed_req (n := n) (mode := mode) hp hk).symm.trans hfd)
    have HI2 := jD (hI.pull hc hp)
    have HS := jD (set_both hc1 ((m1.get c).bytes.extract j (m1.get c).bytes.size) (reqOf k t))
    have HSB := jD (fun w2 (h2 : PMem 0 w2 base P f1 G1 mode m1) => h2.setBytes hc hI.ok.n6 ((m1.get c).bytes.extract j (m1.get c).bytes.size))
    have hsz : ((m1.get c).bytes.extract j (m1.get c).bytes.size).size < n ∧ ((m1.get c).bytes.extract j (m1.get c).bytes.size).size < gk := by rw [ext_size]; omega
    have hgs1 : ∀ x : Cl, (m1.set c x).get c = x := fun x => by rw [get_set hc1, if_pos rfl]
    have HGS := jD hgs1
    have HRQ := jD (fun wc (hw : Words wc) => request_any k t wc hw)
    have HWL := jD hwN.1
    have HN6 := jD hI.ok.n6
    obtain ⟨x1, HX1⟩ : ∃ x, Hid (m1.get c = x) := ⟨_, jD rfl⟩
    rw [HX1.out] at HE HI2 HS HSB hsz HU b0 hj hwN
    obtain ⟨bs1, HBS⟩ : ∃ x, Hid (x1.bytes = x) := ⟨_, jD rfl⟩
    rw [HBS.out] at HE HI2 HS HSB hsz HU b0 hj hwN
    obtain ⟨rest, HRE⟩ : ∃ x, Hid (bs1.extract j bs1.size = x) := ⟨_, jD rfl⟩
    rw [HRE.out] at HE HI2 HS HSB hsz
    have hrl : rest.size ≤ 300000 := by have := HRE.out; rw [← this, ext_size]; omega
    have hre := HRE.out
    have hjI : (j : Int) ≤ (bs1.size : Int) := by omega
    have hjt : (j : Int).toNat = j := by omega
    clear hM hI hB hfd hp hV hgg hn hgs1 hc1 hk
    go_wp2_with fail
    refine (HU.out _).mono ?_
    rintro e w1 ⟨rfl, hb1⟩
    have hM1 := HM.out.below hb1
    have HB1 := jD (HB.out.trans (hb1.mono hbase))
    have HT2 := jD (HT1.out.below (hb1.mono hbase))
    have b1 := (hb1.cell (p := ⟨P, 4 + c * 6, none⟩) hP).trans b0
    have z1 := hM1.row.frozen (4 + c * 6)
    have hP1 := hM1.row.lt
    have HM1 := jD (HSB.out w1 hM1)
    clear hb1 HU b0 z0 hM1 HM HB HT1
    go_wp2_with fail
    (try rw [hre])
    have hM2 := HM1.out
    have hB2 := HB1.out.setCell (p := ⟨P, 4 + c * 6, none⟩) hbP (.string rest)
    have hT2 := HT2.out.below ((Below.refl base w1).setCell (p := ⟨P, 4 + c * 6, none⟩) hbP (.string rest))
    obtain ⟨W2, HW2⟩ : ∃ u, Hid (w1.setCell ⟨P, 4 + c * 6, none⟩ (.string rest) = u) := ⟨_, jD rfl⟩
    rw [HW2.out] at hM2 hB2 hT2 ⊢
    obtain ⟨f2, HF2⟩ : ∃ u, Hid (upd f1 (4 + c * 6) (.string rest) = u) := ⟨_, jD rfl⟩
    rw [HF2.out] at hM2
    clear HW2 b1 z1 HM1 HB1 HT2 HF2 hP1
    have HM2 := jD hM2
    have HB2 := jD hB2
    have HT2 := jD hT2
    have hP2 := hM2.row.lt
    have s0 := hM2.row.cell (j := 4 + c * 6 + 1) (by omega)
    obtain ⟨fv, HFV⟩ : ∃ u, Hid (f2 (4 + c * 6 + 1) = u) := ⟨_, jD rfl⟩
    rw [HFV.out] at s0
    clear hM2 hB2 hT2
    refine wp_region_z 12 (fun wx => wx.cell? ⟨P, 4 + c * 6 + 1, none⟩ = some fv) (by kernel_rfl) (s0) (fun hS => ?_)
    refine tkE [(0, []), (1, []), (2, []), (3, []), (4, []), (5, []), (6, [])] ?_
    iterate 7
     refine tkS (v := ?_) hS ?_ ?_
     rotate_left
     ·(intro w hSw; (try dsimp only at hSw); (try simp only [gTA, gCZ, gCS]); go_simp; try with_reducible rfl)
     (try simp only [gTA, gCZ, gCS, Act.put, sTA, sCZ, sCS])
    refine tkF ?_
    refine wpAnyZ_one (i := 7) rfl rfl (by kernel_rfl) (fun K hK => ?_)
    (try simp only [gTA, gCZ, gCS])
    go_simp
    refine (HRQ.out _ (HT2.out.wo.below (Below.refl _ _).drew)).mono ?_
    rintro e w3 ⟨rfl, hb3⟩
    have kb := bel_add' (Below.refl W2.heap.size W2).drew hb3 (nL _)
    clear hb3
    have s3 := (kb.cell (p := ⟨P, 4 + c * 6 + 1, none⟩) hP2).trans s0
    obtain ⟨r, HR⟩ : ∃ u, Hid (reqOf k t = u) := ⟨_, jD rfl⟩
    rw [HR.out] at HE HI2 HS ⊢
    have nD := kb.alloc kb.size (.cells #[.int .i64 r.k, .string r.key, .string r.val] 36)
    have XD := RowTo.whole w3 #[.int .i64 r.k, .string r.key, .string r.val] 36
    have hMD := HM2.out.below nD
    obtain ⟨b, off, cap, nn, w8, hrun, p0, fz, hP8, hM8, hB8⟩ := hMD.waited (by show (m1.cl.set c _).length = 6; rw [List.length_set]; exact HN6.out) hc (by rw [HGS.out]; show x1.wait.length ≤ _; have := HWL.out; rw [HX1.out] at this; exact this) (ad := w3.heap.size) r (fun j u hu => by
     obtain ⟨x0, x1, x2⟩ := cells3 XD
     match j, hu with
     | 0, hu => injection hu with hu; rw [← hu]; exact x0
     | 1, hu => injection hu with hu; rw [← hu]; exact x1
     | 2, hu => injection hu with hu; rw [← hu]; exact x2
     | n + 3, hu => simp [reqV] at hu)
    rw [HS.out] at hM8
    rw [HFV.out] at hrun p0
    have sD := (nD.cell (p := ⟨P, 4 + c * 6 + 1, none⟩) hP2).trans s0
    have HFF := jD (And.intro hM8 (HB2.out.trans ((nD.mono (Nat.le_trans hbP (Nat.le_of_lt hP2))).trans hB8)))
    clear hM8 hB8 hMD nD XD kb
    go_simp
    have hS2 := s3
    refine hK.out _ _ hS2 ?_
    clear hK K hS
    have hS := hS2
    clear hS2
    (try simp only [gTA, gCZ, gCS, Act.put, sTA, sCZ, sCS])
    refine wpAnyZ_one (i := 8) rfl rfl (by kernel_rfl) (fun K hK => ?_)
    (try simp only [gTA, gCZ, gCS])
    refine wp_val (exec_stmts rfl rfl _) ?_
    have hS2 := sD
    refine hK.out _ _ hS2 ?_
    clear hK K hS
    have hS := hS2
    clear hS2
    (try simp only [gTA, gCZ, gCS, Act.put, sTA, sCZ, sCS])
    refine wpAnyZ_one (i := 9) rfl rfl (by kernel_rfl) (fun K hK => ?_)
    (try simp only [gTA, gCZ, gCS])
    refine Lib.wp_append_run _ _ _ _ _ rfl _ _ rfl rfl _ _ hrun ?_
    have hS2 := p0
    refine hK.out _ _ hS2 ?_
    clear hK K hS
    have hS := hS2
    clear hS2
    (try simp only [gTA, gCZ, gCS, Act.put, sTA, sCZ, sCS])
    refine tkE [(10, [11]), (11, [])] ?_
    iterate 2
     refine tkS (v := ?_) hS ?_ ?_
     rotate_left
     ·(intro w hSw; (try dsimp only at hSw); (try simp only [gTA, gCZ, gCS]); go_simp; try with_reducible rfl)
     (try simp only [gTA, gCZ, gCS, Act.put, sTA, sCZ, sCS])
    refine tkF ?_
    refine wpAnyZ_last rfl rfl (by kernel_rfl) (by kernel_rfl) (fun K hK => ?_)
    (try simp only [gTA, gCZ, gCS])
    go_simp
    refine hK.out _ _ ?_
    clear hK K
    (try simp only [gTA, gCZ, gCS, Act.put, sTA, sCZ, sCS])
    go_wp2
    go_roundg rest.size
    case measure => exact hsz.2
    case rel => exact ⟨_, _, _, n, by rw [HGS.out]; exact nL _, by rw [HGS.out]; exact hsz.1, HE.out, HFF.out.1, HI2.out, hb8, HFF.out.2⟩
end
end Go.Proofs.YtpbaobmegomfpacGreatDoor
