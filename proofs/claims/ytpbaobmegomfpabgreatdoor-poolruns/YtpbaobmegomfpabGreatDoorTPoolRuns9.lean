/-
  Texts of the proof, one behind the other: HouN, HouL.
-/
import Derived.Test.YtpbaobmegomfpabGreatDoorTPoolRuns8
import Derived.Test.YtpbaobmegomfpabGreatDoorM34
import Derived.Test.YtpbaobmegomfpabGreatDoorM32
import Derived.Sort.WalkB12
set_option linter.unusedVariables false
set_option linter.unusedSimpArgs false
set_option maxRecDepth 100000
open List renaming getElem_toArray → gTA, getElem_cons_zero → gCZ, getElem_cons_succ → gCS, setIfInBounds_toArray → sTA, set_cons_zero → sCZ, set_cons_succ → sCS
open Go.Lib renaming hid → jD
open Nat renaming le_refl → nL
namespace Go.Proofs.YtpbaobmegomfpabGreatDoor
open Go.RowKit
section
variable {w : World} {base H A S : Nat} {f g : Nat → Value} {G : Nat → Option Nat} {mode : Int} {m : Mach Wd} {q : Nat → List Ask} {ow : List Int} {N : Nat}
theorem firstH_is {m : Mach Wd} {c : Nat} (hc : c < 6) (h0 : ∀ d, d < c → readyB mode (m.get d) = false) (h1 : readyB mode (m.get c) = true) : m.firstR mode = some c := by
 cases hf : m.firstR mode with
 | none => have := first_none hf hc; rw [h1] at this; cases this
 | some d =>
  obtain ⟨hd, hr⟩ := first_some hf
  rcases Nat.lt_trichotomy d c with h | h | h
  ·rw [h0 d h] at hr; cases hr
  ·rw [h]
  ·unfold Mach.firstR at hf
   rw [List.find?_eq_some_iff_append] at hf
   obtain ⟨_, xs, ys, e, ha⟩ := hf
   have hm : c ∈ xs := by
    have hcr : c ∈ List.range 6 := List.mem_range.2 hc
    have hs : List.Pairwise (· < ·) (List.range 6) := List.pairwise_lt_range
    rw [e] at hcr hs
    rcases List.mem_append.1 hcr with hh | hh
    ·exact hh
    ·rcases List.mem_cons.1 hh with hh | hh
     ·omega
     ·have := (List.pairwise_cons.1 (List.pairwise_append.1 hs).2.1).1 c hh
      omega
   have := ha c hm
   rw [h1] at this
   cases this
theorem firstH_no {m : Mach Wd} (h0 : ∀ d, d < 6 → readyB mode (m.get d) = false) : m.firstR mode = none := by
 cases hf : m.firstR mode with
 | none => rfl
 | some d => obtain ⟨hd, hr⟩ := first_some hf; rw [h0 d hd] at hr; cases hr
theorem HInv.ok (h : HInv mode m N) : MOk mode m := by
 obtain ⟨P, i, a⟩ := h
 have k := i.ok
 obtain ⟨e, cl, busy, line, sent, deeds⟩ := m
 obtain ⟨e', cl', busy', line', sent', deeds'⟩ := P
 obtain rfl : cl' = cl := a.cl
 obtain rfl : busy' = busy := a.busy
 obtain rfl : line' = line := a.line
 obtain rfl : sent' = sent := a.sent
 obtain ⟨k1, k2, k3, k4, k5, k6, k7⟩ := k
 constructor
 all_goals assumption
def OnI (w : World) (base H A S : Nat) (mode : Int) (N : Nat) (m : Mach Wd) (gg : Nat) (wr : World) : Prop := ∃ (m1 : Mach Wd) (f1 g1 : Nat → Value) (G1 : Nat → Option Nat) (q1 : Nat → List Ask) (ow1 : List Int), m1.mu ≤ gg ∧ HMem 0 wr base H A S f1 g1 G1 mode m1 q1 ow1 ∧ HInv mode m1 N ∧ HRel m1 q1 ow1 ∧ m1.all houseO mode = m.all houseO mode ∧ m1.busy.length ≤ 8 ∧ Below base w wr
def On1 (wr0 : World) (base H A S : Nat) (mode : Int) (m1 : Mach Wd) (f1 g1 : Nat → Value) (G1 : Nat → Option Nat) (q1 : Nat → List Ask) (ow1 : List Int) (k : Nat) (d : Value) (wr : World) : Prop :=
 (d = .bool false ∧ (∀ j, j < k → readyB mode (m1.get j) = false) ∧ HMem 0 wr base H A S f1 g1 G1 mode m1 q1 ow1 ∧ Below base wr0 wr) ∨
 (d = .bool true ∧ ∃ c, m1.firstR mode = some c ∧ ∃ f2 g2 G2 q2 ow2, HMem 0 wr base H A S f2 g2 G2 mode (m1.proc houseO mode c) q2 ow2 ∧ HRel (m1.proc houseO mode c) q2 ow2 ∧ Below base wr0 wr)
theorem HMem.lined {w1 : World} {b off cap : Nat} (h : HMem 0 w base H A S f g G mode m q ow) (x : Nat) (hg : w.grownBy w1 (G 10))
  (hs : Sl w1 3 1 (.slice (some ⟨b, off, none⟩) (m.line.length + 1) cap) (some b) (m.line.length + 1) ((m.line.map fun (n : Nat) => Value.int .i64 (n : Int)) ++ [.int .i64 (x : Int)])) (hb : G 10 = some b ∨ (w.heap.size ≤ b ∧ b < w1.heap.size)) :
  HMem 0 (w1.setCell ⟨H, 6, none⟩ (.slice (some ⟨b, off, none⟩) (m.line.length + 1) cap)) base H A S (upd f 6 (.slice (some ⟨b, off, none⟩) (m.line.length + 1) cap)) g (upd G 10 (some b)) mode { m with line := m.line ++ [x] } q ow := by
 have h0 := (h.but 10).grown (by omega) h.bH.2.2 hg hb
 have h1 := h0.cellH (by omega) (by omega) (.slice (some ⟨b, off, none⟩) (m.line.length + 1) cap)
 refine h1.fill ?_ (fun k _ h2 h3 => ?_) rfl (fun _ _ => rfl) (fun _ _ => rfl) (fun _ _ => rfl)
 ·have e2 : upd G 10 (some b) 10 = some b := by unfold upd; rw [if_pos rfl]
  have e3 : hV (upd f 6 (.slice (some ⟨b, off, none⟩) (m.line.length + 1) cap)) g 10 = .slice (some ⟨b, off, none⟩) (m.line.length + 1) cap := by unfold hV; rw [if_neg (by omega)]; exact upd_at
  rw [show hT 10 = 3 from rfl, show hZ 10 = 1 from rfl, hI_l, e2, e3, List.length_map, List.length_append, flat_nat, List.map_append]
  refine (by simpa using hs : Sl w1 _ 1 _ (some b) (m.line.length + 1) _).keep fun x hx => set_off w1 H 6 _ x (h0.ne (i := 10) (by rw [e2, hx]) h0.g0 (by omega))
 ·unfold hI
  split
  ·rfl
  ·split
   ·rfl
   ·rfl
theorem HMem.lineRun (h : HMem 0 w base H A S f g G mode m q ow) {n : Nat} (hn : m.line.length = n) (hl : n ≤ 1000) {ad : Nat} (x : Nat) (hx : w.cell? ⟨ad, 0, none⟩ = some (.int .i64 (x : Int))) :
  ∃ b off cap w', (Builtin.append_ #[79, 79] 79 #[f 6, .slice (some ⟨ad, 0, none⟩) 1 1]).run Tryz.prog w = .ok (.slice (some ⟨b, off, none⟩) (n + 1) cap) w' ∧ w'.cell? ⟨H, 6, none⟩ = some (f 6) ∧ w'.frozen? ⟨H, 6, none⟩ = false ∧ H < w'.heap.size ∧
   HMem 0 (w'.setCell ⟨H, 6, none⟩ (.slice (some ⟨b, off, none⟩) (n + 1) cap)) base H A S (upd f 6 (.slice (some ⟨b, off, none⟩) (n + 1) cap)) g (upd G 10 (some b)) mode { m with line := m.line ++ [x] } q ow ∧ Below base w (w'.setCell ⟨H, 6, none⟩ (.slice (some ⟨b, off, none⟩) (n + 1) cap)) := by
 subst hn
 obtain ⟨i0, hi, hz0, hz1, hz2⟩ := info_parts int_row
 have hbH := h.bH
 obtain ⟨b, off, cap, w', hrun, hs, hg, hb⟩ := h.lineSl.append (P := Tryz.prog) 79 79 i0 _ 8 Tryz.underlying79 hi hz0 hz1 hz2 rfl (by omega) ⟨ad, 0, none⟩ 1 [.int .i64 (x : Int)] rfl (fun j u hu => by
  cases j with
  | zero => simp at hu; rw [← hu]; exact hx
  | succ j => simp at hu) (fun u hu => by simp at hu; rw [hu]; rfl) (by unfold maxLen; omega) (by omega)
 have hP' := hg.block H h.h.lt (fun e => h.ne (i := 10) (j := 0) (b := H) (c := H) e.symm h.g0 (by omega) rfl)
 exact ⟨b, off, cap, w', hrun, (World.cell?_of_block (a := ⟨H, 6, none⟩) hP').trans (h.h.cell (j := 6) (by omega)), (World.frozen?_of_block (a := ⟨H, 6, none⟩) hP').trans (h.h.frozen _), Nat.lt_of_lt_of_le h.h.lt hg.size, h.lined x hg hs hb, ((Below.refl base w).grown hg hbH.2.2 (fun x hx => (h.lo _ _ hx).1)).setCell hbH.1 _⟩
def lineH (m : Mach Wd) (k : Nat) : List Nat := (List.range k).foldl (enqL m) m.line
theorem lineH_succ (m : Mach Wd) (k : Nat) : lineH m (k + 1) = enqL m (lineH m k) k := by unfold lineH; rw [List.range_succ, List.foldl_append]; rfl
def On2 (wr0 : World) (base H A S : Nat) (mode : Int) (m1 : Mach Wd) (g1 : Nat → Value) (q1 : Nat → List Ask) (ow1 : List Int) (k : Nat) (wr : World) : Prop :=
 (∃ f2 G2, HMem 0 wr base H A S f2 g1 G2 mode { m1 with line := lineH m1 k } q1 ow1) ∧ (lineH m1 k).length ≤ 6 + k ∧ Below base wr0 wr
theorem HMem.cutLine (h : HMem 0 w base H A S f g G mode m q ow) {c : Nat} {l : List Nat} (hl : m.line = c :: l) {b off cap : Nat} (hv : f 6 = .slice (some ⟨b, off, none⟩) (l.length + 1) cap) :
  HMem 0 (w.setCell ⟨H, 6, none⟩ (cutv b off 1 l.length cap)) base H A S (upd f 6 (cutv b off 1 l.length cap)) g G mode { m with line := l } q ow := by
 have hsl := h.lineSl
 rw [hv, hl] at hsl
 have hcut := Sl.cut hsl
 have h1 := (h.but 10).cellH (by omega) (by omega) (cutv b off 1 l.length cap)
 refine h1.fill ?_ (fun k _ h2 h3 => ?_) rfl (fun _ _ => rfl) (fun _ _ => rfl) (fun _ _ => rfl)
 ·have e3 : hV (upd f 6 (cutv b off 1 l.length cap)) g 10 = cutv b off 1 l.length cap := by unfold hV; rw [if_neg (by omega)]; exact upd_at
  rw [show hT 10 = 3 from rfl, show hZ 10 = 1 from rfl, hI_l, e3, List.length_map, flat_nat]
  exact (show Sl w _ 1 _ (G 10) l.length (l.map fun (n : Nat) => Value.int .i64 (n : Int)) from hcut).keep fun x hx => set_off w H 6 _ x (h.ne (i := 10) hx h.g0 (by omega))
 ·unfold hI
  split
  ·rfl
  ·split
   ·rfl
   ·rfl
theorem HRel.first (h : HRel m q ow) {k : Nat} (hk : k < ow.length) (hno : ∀ j (hj : j < ow.length), j < k → ow[j] ≠ -1) (h1 : ow[k] = -1) : m.busy.idxOf false = k ∧ m.busy.idxOf false < m.busy.length := by
 obtain ⟨hkb, e⟩ := List.getElem?_eq_some_iff.1 ((h.free k hk).1 h1)
 have h2 := idx_le hkb e
 have h3 : m.busy.idxOf false < m.busy.length := Nat.lt_of_le_of_lt h2 hkb
 refine ⟨?_, h3⟩
 rcases Nat.lt_or_ge (m.busy.idxOf false) k with h4 | h4
 ·have h5 : m.busy[m.busy.idxOf false]? = some false := by rw [List.getElem?_eq_getElem h3, List.getElem_idxOf]
  exact absurd ((h.free _ (by rw [h.own]; exact h3)).2 h5) (hno _ _ h4)
 ·omega
theorem HRel.full (h : HRel m q ow) (hno : ∀ j (hj : j < ow.length), ow[j] ≠ -1) : ¬ m.busy.idxOf false < m.busy.length := fun h3 => by
 have h5 : m.busy[m.busy.idxOf false]? = some false := by rw [List.getElem?_eq_getElem h3, List.getElem_idxOf]
 exact absurd ((h.free _ (by rw [h.own]; exact h3)).2 h5) (hno _ _)
def On3 (wr0 : World) (base H A S : Nat) (mode : Int) (m2 : Mach Wd) (g1 : Nat → Value) (q1 : Nat → List Ask) (ow1 : List Int) (k : Nat) (d : Value) (wr : World) : Prop :=
 (d = .bool false ∧ (∀ j (hj : j < ow1.length), j < k → ow1[j] ≠ -1) ∧ (∃ f2 G2, HMem 0 wr base H A S f2 g1 G2 mode m2 q1 ow1) ∧ Below base wr0 wr) ∨
 (d = .bool true ∧ ∃ m3, m2.assign houseO = (true, m3) ∧ ∃ f2 g2 G2 q2 ow2, HMem 0 wr base H A S f2 g2 G2 mode m3 q2 ow2 ∧ HRel m3 q2 ow2 ∧ Below base wr0 wr)
theorem assign_nil (h : m.line = []) : m.assign houseO = (false, m) := by unfold Mach.assign; rw [h]
theorem assign_full (h : ¬ m.busy.idxOf false < m.busy.length) : m.assign houseO = (false, m) := by
 unfold Mach.assign
 split
 ·rfl
 ·rw [if_neg h]
theorem assign_one {c k : Nat} {l : List Nat} (hl : m.line = c :: l) (h1 : m.busy.idxOf false = k) (h2 : m.busy.idxOf false < m.busy.length) : m.assign houseO = (true, Mach.set { m with line := l, busy := m.busy.set k true } c { m.get c with srv := some k }) := by
 subst h1
 unfold Mach.assign
 rw [hl]
 simp only
 rw [if_pos h2]
 rfl
theorem OnI.next {w wr wr' : World} {m1 m2 m : Mach Wd} (hI : HInv mode m1 N) (hall : m1.all houseO mode = m.all houseO mode) (hb8 : m1.busy.length ≤ 8) (hB : Below base w wr) (hst : m1.step houseO mode = (true, m2)) {f2 g2 : Nat → Value} {G2 : Nat → Option Nat} {q2 : Nat → List Ask} {ow2 : List Int} (hM : HMem 0 wr' base H A S f2 g2 G2 mode m2 q2 ow2) (hR : HRel m2 q2 ow2) (hB2 : Below base wr wr') :
  OnI w base H A S mode N m m2.mu wr' ∧ m2.mu < m1.mu := by
 have h1 := hI.step
 have h2 := (hI.ok.step (o := houseO)).2 (by rw [hst])
 have h3 := all_step (o := houseO) hI.ok (by rw [hst])
 have h4 := step_len (o := houseO) (mode := mode) m1
 rw [hst] at h1 h2 h3 h4
 exact ⟨⟨m2, f2, g2, G2, q2, ow2, nL _, hM, h1, hR, by rw [← hall, h3], by rw [h4]; exact hb8, hB.trans hB2⟩, h2⟩
set_option maxHeartbeats 4000000 in
theorem hon_any (w : World) (h : HMem 0 w base H A S f g G mode m q ow) (hI : HInv mode m N) (hN : N ≤ 300000) (hrel : HRel m q ow) (hbl : m.busy.length ≤ 8) :
  Calls Tryz.prog 30 #[.pointer (some ⟨H, 0, none⟩)] w (HQ w base H A S mode (m.all houseO mode)) := by
 have H0 := jD (And.intro h (And.intro hI (And.intro hrel (And.intro hbl hN))))
 clear h hI hN hrel hbl
 go_enter Tryz.func30, Tryz.ntmps30
 go_wp2_with fail
 go_loopg [2, 3, 4, 5, 6] m.mu (fun gg _ _ _ _ _ wr => Hid (OnI w base H A S mode N m gg wr))
 case atStart => exact ⟨m, f, g, G, q, ow, nL _, H0.out.1, H0.out.2.1, H0.out.2.2.1, rfl, H0.out.2.2.2.1, Below.refl _ _⟩
 case round =>
  obtain ⟨m1, f1, g1, G1, q1, ow1, hmu, hM, hI, hR, hall, hb8, hB⟩ := hrel.out
  have HO := jD (And.intro hM (And.intro hI (And.intro hR (And.intro hall (And.intro hb8 hB)))))
  have HMU := jD hmu
  clear hM hI hR hall hb8 hB hrel hmu
  go_wp2_with fail
  go_loopg [2, 3] 6 (fun gk d i wi => ∃ k : Nat, k ≤ 6 ∧ gk = 6 - k ∧ i = .int .i64 k ∧ Hid (On1 wr base H A S mode m1 f1 g1 G1 q1 ow1 k d wi))
  case atStart => exact ⟨0, by omega, rfl, rfl, Or.inl ⟨rfl, fun j hj => absurd hj (by omega), HO.out.1, Below.refl _ _⟩⟩
  case round =>
   obtain ⟨k, hk, rfl, rfl, HZ⟩ := hrel
   rcases HZ.out with ⟨rfl, hno, hM, hB⟩ | ⟨rfl, HD⟩
   ·have h4 : wr.cell? ⟨H, 4, none⟩ = some (.slice (some ⟨A, 0, none⟩) 6 6) := by rw [hM.h.cell (by omega), hM.f4]
    have hHl := hM.h.lt
    have hAl := hM.a.lt
    by_cases hlt : k < 6
    ·have hkI : (k : Int) < 6 := by omega
     have ga1 := hM.a.cell (j := k * 4 + 1) (by omega)
     have ga2 := hM.a.cell (j := k * 4 + 2) (by omega)
     rw [hM.srv k hlt] at ga2
     obtain ⟨Aw, cw, hv, _⟩ := (hM.waitSl hlt).shape
     rw [hv] at ga1
     have HMM := jD (And.intro hM (And.intro hB hno))
     have hwt := HO.out.2.2.1.wait k hlt
     cases hq : q1 k with
     | nil =>
      rw [hq] at ga1 hwt
      simp only [List.length_nil] at ga1
      have HF := jD (show On1 _ base H A S mode m1 f1 g1 G1 q1 ow1 (k + 1) (.bool false) wr from Or.inl ⟨rfl, fun j hj => by
       by_cases e : j = k
       ·subst e; unfold readyB; rw [hwt]; rfl
       ·exact HMM.out.2.2 j (by omega), HMM.out.1, HMM.out.2.1⟩)
      clear hM hB hno HMM hv hwt hq HZ ga2
      go_wp2
      go_roundg (6 - (k + 1))
      case measure => omega
      case rel => exact ⟨k + 1, by omega, rfl, by go_num, HF.out⟩
     | cons a l =>
      rw [hq] at ga1 hwt
      simp only [List.length_cons] at ga1
      have hpos : (0 : Int) < ((l.length + 1 : Nat) : Int) := by omega
      have HQ := jD hq
      have HWT := jD hwt
      clear hM hB hno hv hwt hq HZ
      cases hs : (m1.get k).srv with
      | some s =>
       rw [hs] at ga2
       unfold srvI at ga2
       simp only at ga2
       have hrd : readyB mode (m1.get k) = true := by unfold readyB; rw [HWT.out]; simp [hs]
       have HFC := jD (firstH_is hlt HMM.out.2.2 hrd)
       have HON := jD (hone_any wr HMM.out.1 HO.out.2.1 H0.out.2.2.2.2 HO.out.2.2.1 k hlt a l HQ.out hrd)
       clear hs hrd HQ HWT
       generalize l.length = nl at *
       go_wp2_with fail
       refine HON.out.mono ?_
       rintro e w1 ⟨q2, ow2, ⟨f2, g2, G2, rfl, hM2, hB2⟩, hR2⟩
       have HF := jD (show On1 _ base H A S mode m1 f1 g1 G1 q1 ow1 (k + 1) (.bool true) w1 from Or.inr ⟨rfl, k, HFC.out, f2, g2, G2, q2, ow2, hM2, hR2, HMM.out.2.1.trans hB2⟩)
       clear hM2 hB2 hR2 HON HFC HMM h4 ga1 ga2 hHl hAl
       go_wp2
       go_roundg (6 - (k + 1))
       case measure => omega
       case rel => exact ⟨k + 1, by omega, rfl, by go_num, HF.out⟩
      | none =>
       rw [hs] at ga2
       unfold srvI at ga2
       simp only at ga2
       have HAL := jD (halone_any wr HMM.out.1 k hlt a l HQ.out (HO.out.2.2.1.good k hlt a (by rw [HQ.out]; exact List.mem_cons_self)))
       have hre : readyB mode (m1.get k) = refB mode a.req := by unfold readyB; rw [HWT.out]; simp [hs]
       cases hrf : refB mode a.req with
       | true =>
        rw [hrf] at HAL hre
        have HFC := jD (firstH_is hlt HMM.out.2.2 hre)
        have HON := jD (fun (w1 : World) (hb : Below wr.heap.size wr w1) => hone_any w1 (HMM.out.1.below hb) HO.out.2.1 H0.out.2.2.2.2 HO.out.2.2.1 k hlt a l HQ.out hre)
        clear hs hre hrf HQ HWT
        generalize l.length = nl at *
        go_wp2_with fail
        refine HAL.out.mono ?_
        rintro e w1 ⟨rfl, hb1⟩
        have HB1 := jD hb1
        have HON1 := jD (HON.out w1 hb1)
        clear hb1 HON HAL h4 ga1 ga2
        go_wp2_with fail
        refine HON1.out.mono ?_
        rintro e w2 ⟨q2, ow2, ⟨f2, g2, G2, rfl, hM2, hB2⟩, hR2⟩
        have HF := jD (show On1 _ base H A S mode m1 f1 g1 G1 q1 ow1 (k + 1) (.bool true) w2 from Or.inr ⟨rfl, k, HFC.out, f2, g2, G2, q2, ow2, hM2, hR2, (HMM.out.2.1.trans (HB1.out.mono HMM.out.1.bH.2.2)).trans hB2⟩)
        clear hM2 hB2 hR2 HON1 HFC HMM HB1 hHl hAl
        go_wp2
        go_roundg (6 - (k + 1))
        case measure => omega
        case rel => exact ⟨k + 1, by omega, rfl, by go_num, HF.out⟩
       | false =>
        rw [hrf] at HAL hre
        have HRE := jD hre
        clear hs hre hrf HQ HWT
        generalize l.length = nl at *
        go_wp2_with fail
        refine HAL.out.mono ?_
        rintro e w1 ⟨rfl, hb1⟩
        have HF := jD (show On1 _ base H A S mode m1 f1 g1 G1 q1 ow1 (k + 1) (.bool false) w1 from Or.inl ⟨rfl, fun j hj => by
         by_cases e : j = k
         ·subst e; exact HRE.out
         ·exact HMM.out.2.2 j (by omega), HMM.out.1.below hb1, HMM.out.2.1.trans (hb1.mono HMM.out.1.bH.2.2)⟩)
        clear hb1 HAL HRE HMM h4 ga1 ga2 hHl hAl
        go_wp2
        go_roundg (6 - (k + 1))
        case measure => omega
        case rel => exact ⟨k + 1, by omega, rfl, by go_num, HF.out⟩
    ·obtain rfl : k = 6 := by omega
     have HS := jD (And.intro (firstH_no hno) (And.intro hM hB))
     clear hno hM hB HZ h4 hHl hAl
     go_wp2_with fail
     go_loopg [4] 6 (fun gk i wi => ∃ k : Nat, k ≤ 6 ∧ gk = 6 - k ∧ i = .int .i64 k ∧ Hid (On2 wr base H A S mode m1 g1 q1 ow1 k wi))
     case atStart => exact ⟨0, by omega, rfl, rfl, ⟨f1, G1, HS.out.2.1⟩, by have := HO.out.2.1.line; show m1.line.length ≤ _; omega, Below.refl _ _⟩
     case round =>
      obtain ⟨k, hk, rfl, rfl, HZ⟩ := hrel
      obtain ⟨⟨f2, G2, hM⟩, hlen, hB⟩ := HZ.out
      have h4 : wr.cell? ⟨H, 4, none⟩ = some (.slice (some ⟨A, 0, none⟩) 6 6) := by rw [hM.h.cell (by omega), hM.f4]
      have hHl := hM.h.lt
      have hAl := hM.a.lt
      have HLS := jD (lineH_succ m1 k)
      by_cases hlt : k < 6
      ·have hkI : (k : Int) < 6 := by omega
       have ga1 := hM.a.cell (j := k * 4 + 1) (by omega)
       obtain ⟨Aw, cw, hv, _⟩ := (hM.waitSl hlt).shape
       rw [hv] at ga1
       have hwt := HO.out.2.2.1.wait k hlt
       cases hq : q1 k with
       | nil =>
        rw [hq] at ga1 hwt
        simp only [List.length_nil] at ga1
        have HE := jD (show lineH m1 (k + 1) = lineH m1 k by rw [HLS.out]; unfold enqL; rw [if_neg (fun hh => hh.1 (by rw [hwt]; rfl))])
        have HF := jD (show On2 _ base H A S mode m1 g1 q1 ow1 (k + 1) wr from ⟨⟨f2, G2, by rw [HE.out]; exact hM⟩, by rw [HE.out]; omega, hB⟩)
        clear hM hB hlen hv hwt hq HZ HE HLS
        go_wp2
        go_roundg (6 - (k + 1))
        case measure => omega
        case rel => exact ⟨k + 1, by omega, rfl, by go_num, HF.out⟩
       | cons a l =>
        rw [hq] at ga1 hwt
        simp only [List.length_cons] at ga1
        have hpos : (0 : Int) < ((l.length + 1 : Nat) : Int) := by omega
        have h6 := hM.h.cell (j := 6) (by omega)
        have hsl := hM.lineSl
        have HCN := jD (isin_any (f2 6) (G2 10) (lineH m1 k) k wr hsl (by omega))
        have HSH := jD hsl.shape
        cases hin : (lineH m1 k).contains k with
        | true =>
         rw [hin] at HCN
         have HE := jD (show lineH m1 (k + 1) = lineH m1 k by rw [HLS.out]; unfold enqL; rw [if_neg (fun hh => hh.2 (List.contains_iff_mem.1 hin))])
         have HF := jD (show On2 _ base H A S mode m1 g1 q1 ow1 (k + 1) wr from ⟨⟨f2, G2, by rw [HE.out]; exact hM⟩, by rw [HE.out]; omega, hB⟩)
         clear hM hB hlen hv hwt hq HZ HE HLS hin hsl
         obtain ⟨A', c', hv', _⟩ := HSH.out
         generalize f2 6 = v6 at *
         subst hv'
         generalize l.length = nl at *
         go_wp2_with fail
         refine HCN.out.mono ?_
         rintro e w1 ⟨rfl, rfl⟩
         go_wp2
         go_roundg (6 - (k + 1))
         case measure => omega
         case rel => exact ⟨k + 1, by omega, rfl, by go_num, HF.out⟩
        | false =>
         rw [hin] at HCN
         have HE := jD (show lineH m1 (k + 1) = lineH m1 k ++ [k] by rw [HLS.out]; unfold enqL; rw [if_pos ⟨by rw [hwt]; simp, fun hh => by rw [List.contains_iff_mem.2 hh] at hin; cases hin⟩])
         have n1 := (Below.refl wr.heap.size wr).alloc (nL _) (.cells #[.int .i64 (k : Int)] 3)
         have X := (RowTo.whole wr #[.int .i64 (k : Int)] 3).cell (j := 0) (by simp)
         obtain ⟨nk, hnk⟩ : ∃ n, (lineH m1 k).length = n := ⟨_, rfl⟩
         obtain ⟨b, off, cap, w2, hrun, u0, z0, hH2, hM2, hB2⟩ := (hM.below n1).lineRun (n := nk) hnk (by omega) (ad := wr.heap.size) k X
         have HF := jD (show On2 _ base H A S mode m1 g1 q1 ow1 (k + 1) _ from ⟨⟨_, _, by rw [HE.out]; exact hM2⟩, by rw [HE.out]; simp; omega, hB.trans ((n1.mono hM.bH.2.2).trans hB2)⟩)
         have h61 := (n1.cell (p := ⟨H, 6, none⟩) hHl).trans h6
         obtain ⟨A', c', hv', _⟩ := HSH.out
         have hv2 : f2 6 = .slice A' nk c' := by rw [← hnk]; exact hv'
         clear hM hB hlen hv hwt hq HZ HE HLS hin hsl hM2 hB2 n1 X hv' hnk
         rw [hv2] at hrun u0 h6 h61 HCN
         clear hv2 HSH
         generalize l.length = nl at *
         go_wp2_with fail
         refine HCN.out.mono ?_
         rintro e w1 ⟨rfl, rfl⟩
         go_wp2_with (at_builtin; refine Lib.wpList_append_run _ rfl _ _ _ _ rfl _ _ rfl rfl _ _ hrun ?_)
         go_roundg (6 - (k + 1))
         case measure => omega
         case rel => exact ⟨k + 1, by omega, rfl, by go_num, HF.out⟩
      ·obtain rfl : k = 6 := by omega
       have HST := jD (show m1.step houseO mode = m1.enq.assign houseO by unfold Mach.step; rw [HS.out.1])
       have HI2 := jD (HO.out.2.1.enq HS.out.1)
       have HR2 := jD (show HRel m1.enq q1 ow1 from HO.out.2.2.1.same (fun _ _ => rfl) rfl)
       have HS2 := jD (show (∃ f2 G2, HMem 0 wr base H A S f2 g1 G2 mode m1.enq q1 ow1) ∧ Below base _ wr from ⟨⟨f2, G2, hM⟩, hB⟩)
       have hnb : ow1.length ≤ 8 := by rw [HR2.out.own]; exact HO.out.2.2.2.2.1
       have HBS := jD ((HO.out.2.2.2.2.2.trans HS.out.2.2).trans hB)
       have h5 := hM.h.cell (j := 5) (by omega)
       obtain ⟨Ao, co, hvo, _⟩ := hM.ownSl.shape
       rw [hvo] at h5
       clear hM hB hlen HZ h4 hAl HLS hvo
       go_wp2_with fail
       go_loopg [2, 5, 6] ow1.length (fun gk d s c wi => ∃ k : Nat, k ≤ ow1.length ∧ gk = ow1.length - k ∧ s = .int .i64 k ∧ Hid (On3 wr base H A S mode m1.enq g1 q1 ow1 k d wi))
       case atStart => exact ⟨0, by omega, rfl, rfl, Or.inl ⟨rfl, fun j hj hj' => absurd hj' (by omega), HS2.out.1, Below.refl _ _⟩⟩
       case round =>
        obtain ⟨k, hk, rfl, rfl, HZ⟩ := hrel
        rcases HZ.out with ⟨rfl, hno, ⟨f2, G2, hM⟩, hB⟩ | ⟨rfl, HD⟩
        ·have hHl := hM.h.lt
         have h5 := hM.h.cell (j := 5) (by omega)
         have h6 := hM.h.cell (j := 6) (by omega)
         obtain ⟨Ao, co, hvo, _⟩ := hM.ownSl.shape
         obtain ⟨Al, cl, hvl, _⟩ := hM.lineSl.shape
         rw [hvo] at h5
         by_cases hlt : k < ow1.length
         ·have hkI : (k : Int) < (ow1.length : Int) := by omega
          cases hl : m1.enq.line with
          | nil =>
           have HAS := jD (assign_nil hl)
           rw [hvl, hl] at h6
           simp only [List.length_nil] at h6
           clear hno hvo hvl hl
           have HQ := jD (show m.all houseO mode = m1.enq by rw [← HO.out.2.2.2.1, all_stop (o := houseO) (m := m1) (by rw [HST.out, HAS.out]), HST.out, HAS.out])
           have HF := jD (And.intro hM (HBS.out.trans hB))
           clear hM hB HZ
           go_wp2_with fail
           go_end0
           exact ⟨q1, ow1, ⟨f2, g1, G2, rfl, by rw [HQ.out]; exact HF.out.1, HF.out.2⟩, by rw [HQ.out]; exact HR2.out⟩
          | cons c l =>
           obtain ⟨bo, oo, co2, hG9, hvo2, _, hcs⟩ := hM.ownSl.at (by omega)
           have c0 := hcs k (by simpa using hlt)
           rw [List.getElem_map] at c0
           obtain ⟨rfl, rfl⟩ : Ao = some ⟨bo, oo, none⟩ ∧ co = co2 := by rw [hvo] at hvo2; injection hvo2 with e1 e2 e3; exact ⟨e1, e3⟩
           have hpos : (0 : Int) < ((l.length + 1 : Nat) : Int) := by omega
           by_cases hfr : ow1[k] = -1
           ·have t1 : (ow1[k] == -1) = true := by simpa using hfr
            have hbf := HR2.out.first hlt hno hfr
            have hc6 := (HI2.out.ok.line c (by rw [hl]; exact List.mem_cons_self)).1
            have hcI : (c : Int) < 6 := by omega
            have hsl := hM.lineSl
            rw [hl] at hsl
            obtain ⟨b, off, cap, hG10, hv6, hcap, hls⟩ := hsl.at (by simp)
            have l0 := hls 0 (by simp)
            simp only [List.map_cons, gCZ, Nat.add_zero] at l0
            simp only [List.length_cons] at hv6
            have hcapl : l.length + 1 ≤ cap := by simpa using hcap
            rw [hv6] at h6
            have hM1 := hM.cutLine hl hv6
            obtain ⟨vq, hvq⟩ : ∃ v, cutv b off 1 l.length cap = v := ⟨_, rfl⟩
            rw [hvq] at hM1
            obtain ⟨bo', oo', co', hG', hf5, _, ⟨y, hy⟩, hfz, hbo, hM2⟩ := hM1.setOwn (j := k) hlt (c : Int) (m1.busy.set k true)
            have h5' := hM1.h.cell (j := 5) (by omega)
            rw [hf5] at h5'
            have hf5' : f2 5 = .slice (some ⟨bo', oo', none⟩) ow1.length co' := by rw [← hf5]; exact (upd_ne (by omega)).symm
            obtain ⟨rfl, rfl, rfl⟩ : bo = bo' ∧ oo = oo' ∧ co = co' := by rw [hvo] at hf5'; injection hf5' with e1 e2 e3; injection e1 with e1; injection e1 with e1 e4; exact ⟨e1, e4, e3⟩
            have h4 := hM2.h.cell (j := 4) (by omega)
            rw [hM2.f4] at h4
            have s2 := hM2.a.cell (j := c * 4 + 2) (by omega)
            have z2 := hM2.a.frozen (c * 4 + 2)
            have z6 := hM.h.frozen 6
            have hM3 := hM2.setSrv hc6 HI2.out.n6 (some k)
            have hB3 := (((Below.refl base wr).setCell (p := ⟨H, 6, none⟩) hM.bH.1 vq).setCell (p := ⟨bo, oo + k, none⟩) (hM.lo 9 bo hG').1 (.int .i64 (c : Int))).setCell (p := ⟨A, c * 4 + 2, none⟩) hM.bH.2.1 (.int .i64 (k : Int))
            have hrl : HRel (Mach.set { m1.enq with line := l, busy := m1.busy.set k true } c { m1.enq.get c with srv := some k }) q1 (ow1.set k (c : Int)) := HR2.out.taken (s := k) (c := c) (fun d hd => by
             have hgs := get_set (m := { m1.enq with line := l, busy := m1.busy.set k true }) (c := c) (d := d) (x := { m1.enq.get c with srv := some k }) (by show c < m1.enq.cl.length; rw [HI2.out.n6]; exact hc6)
             rw [hgs]
             split
             ·rename_i e; rw [← e]
             ·rfl) rfl
            have HF := jD (show On3 _ base H A S mode m1.enq g1 q1 ow1 (k + 1) (.bool true) _ from Or.inr ⟨rfl, _, assign_one hl hbf.1 hbf.2, _, _, _, _, _, hM3, hrl, hB.trans hB3⟩)
            clear hM hB HZ hno hvo hvl hl hvo2 hcs hfr hbf hsl hv6 hls hcap hM1 hM2 hM3 hB3 hrl hf5 hf5' hG9 hG' hG10 hbo
            unfold srvI at HF
            generalize ow1[k] = ov at *
            generalize l.length = nl at *
            by_cases hcp : cap = 1
            ·subst hcp
             obtain rfl : nl = 0 := by omega
             have hvq : Value.slice (some ⟨b, off, none⟩) 0 0 = vq := hvq
             subst hvq
             go_wp2_with fail
             go_roundg (ow1.length - (k + 1))
             case measure => omega
             case rel => exact ⟨k + 1, by omega, rfl, by go_num, HF.out⟩
            ·have hvq : Value.slice (some ⟨b, off + 1, none⟩) nl (cap - 1) = vq := by rw [← hvq]; unfold cutv; rw [if_neg hcp]
             subst hvq
             have hcp2 : cap - 1 ≠ 0 := by omega
             have hcp3 : ¬ cap ≤ 1 := by omega
             have hlI : ¬ ((nl : Int) + 1 < 1) := by omega
             go_wp2_with fail
             go_roundg (ow1.length - (k + 1))
             case measure => omega
             case rel => exact ⟨k + 1, by omega, rfl, by go_num, HF.out⟩
           ·have t1 : (ow1[k] == -1) = false := by simpa using hfr
            have HF := jD (show On3 _ base H A S mode m1.enq g1 q1 ow1 (k + 1) (.bool false) wr from Or.inl ⟨rfl, fun j hj hj' => by
             by_cases e : j = k
             ·subst e; exact hfr
             ·exact hno j hj (by omega), ⟨f2, G2, hM⟩, hB⟩)
            rw [hvl, hl] at h6
            simp only [List.length_cons] at h6
            clear hM hB HZ hno hvo hvl hl hvo2 hcs hfr
            generalize ow1[k] = ov at *
            generalize l.length = nl at *
            go_wp2_with fail
            go_roundg (ow1.length - (k + 1))
            case measure => omega
            case rel => exact ⟨k + 1, by omega, rfl, by go_num, HF.out⟩
         ·obtain rfl : k = ow1.length := by omega
          have HAS := jD (assign_full (HR2.out.full (fun j hj => hno j hj hj)))
          rw [hvl] at h6
          clear hno hvo hvl
          have HQ := jD (show m.all houseO mode = m1.enq by rw [← HO.out.2.2.2.1, all_stop (o := houseO) (m := m1) (by rw [HST.out, HAS.out]), HST.out, HAS.out])
          have HF := jD (And.intro hM (HBS.out.trans hB))
          clear hM hB HZ
          go_wp2_with fail
          go_end0
          exact ⟨q1, ow1, ⟨f2, g1, G2, rfl, by rw [HQ.out]; exact HF.out.1, HF.out.2⟩, by rw [HQ.out]; exact HR2.out⟩
        ·obtain ⟨m3, has, f3, g3, G3, q3, ow3, hM3, hR3, hB3⟩ := HD
         have h5 := hM3.h.cell (j := 5) (by omega)
         obtain ⟨Ao, co, hvo, _⟩ := hM3.ownSl.shape
         rw [hvo] at h5
         have hHl := hM3.h.lt
         obtain ⟨hn, hmu⟩ := OnI.next (m := m) HO.out.2.1 HO.out.2.2.2.1 HO.out.2.2.2.2.1 HBS.out (HST.out.trans has) hM3 hR3 hB3
         have HN := jD hn
         clear hM3 hR3 hB3 has hn hvo HZ
         by_cases hlt : (k : Int) < (ow3.length : Int)
         all_goals
          go_wp2_with fail
          go_roundg (m3.mu)
          case measure => have := HMU.out; omega
          case rel => exact HN.out
   ·have HF := jD HD
    clear HD HZ
    by_cases hlt : k < 6
    ·have hkI : (k : Int) < 6 := by omega
     obtain ⟨c, hfc, f2, g2, G2, q2, ow2, hM2, hR2, hB2⟩ := HF.out
     obtain ⟨hn, hmu⟩ := OnI.next (m := m) HO.out.2.1 HO.out.2.2.2.1 HO.out.2.2.2.2.1 HO.out.2.2.2.2.2 (show m1.step houseO mode = (true, m1.proc houseO mode c) by unfold Mach.step; rw [hfc]) hM2 hR2 hB2
     have HN := jD hn
     clear hfc hM2 hR2 hB2 hn HF
     go_wp2
     go_roundg ((m1.proc houseO mode c).mu)
     case measure => have := HMU.out; omega
     case rel => exact HN.out
    ·obtain rfl : k = 6 := by omega
     obtain ⟨c, hfc, f2, g2, G2, q2, ow2, hM2, hR2, hB2⟩ := HF.out
     obtain ⟨hn, hmu⟩ := OnI.next (m := m) HO.out.2.1 HO.out.2.2.2.1 HO.out.2.2.2.2.1 HO.out.2.2.2.2.2 (show m1.step houseO mode = (true, m1.proc houseO mode c) by unfold Mach.step; rw [hfc]) hM2 hR2 hB2
     have HN := jD hn
     clear hfc hM2 hR2 hB2 hn HF
     go_wp2
     go_roundg ((m1.proc houseO mode c).mu)
     case measure => have := HMU.out; omega
     case rel => exact HN.out
end
section
variable {w w' : World} {base H A S : Nat} {f g : Nat → Value} {G : Nat → Option Nat} {mode : Int} {m : Mach Wd} {q : Nat → List Ask} {ow : List Int} {N : Nat}
theorem HMem.sess (h : HMem 0 w base H A S f g G mode m q ow) (ho : Only S w w') {W : Wd} (hr : RefP (Free G) w' S 6 (f 2) W) : HMem 0 w' base H A S f g G mode { m with e := W } q ow :=
 ⟨h.h.same (ho.2 H h.h.lt (h.ne h.g0 h.g2 (by omega))), h.a.same (ho.2 A h.a.lt (h.ne h.g1 h.g2 (by omega))), hr, h.g0, h.g1, h.g2, fun i b hi => ⟨(h.lo i b hi).1, Nat.lt_of_lt_of_le (h.lo i b hi).2 ho.1⟩, h.inj,
  fun k h1 h2 h3 => (show Sl w (hT k) (hZ k) (hV f g k) (G k) (hI { m with e := W } q ow k).length (hI { m with e := W } q ow k).flatten from h.sl k h1 h2 h3).keep fun b hb => ho.2 b (h.lo k b hb).2 (fun e => by have := h.inj k 2 S (by rw [hb, e]) h.g2; omega), h.md, h.f3, h.f4, h.bytes, h.srv, h.sent⟩
def freshG (g : Nat → Value) (c : Nat) : Nat → Value := upd (upd (upd (upd g (c * 4) (.string ⟨#[]⟩)) (c * 4 + 1) (.slice none 0 0)) (c * 4 + 2) (.int .i64 (-1))) (c * 4 + 3) (g (c * 4 + 3))
theorem freshG_at (g : Nat → Value) (c : Nat) : freshG g c (c * 4) = .string ⟨#[]⟩ ∧ freshG g c (c * 4 + 1) = .slice none 0 0 ∧ freshG g c (c * 4 + 2) = .int .i64 (-1) ∧ freshG g c (c * 4 + 3) = g (c * 4 + 3) := by
 unfold freshG
 refine ⟨?_, ?_, ?_, upd_at⟩
 ·rw [upd_ne (by omega), upd_ne (by omega), upd_ne (by omega), upd_at]
 ·rw [upd_ne (by omega), upd_ne (by omega), upd_at]
 ·rw [upd_ne (by omega), upd_at]
theorem freshG_ne {c d j : Nat} (h : d ≠ c) (hj : j < 4) : freshG g c (d * 4 + j) = g (d * 4 + j) := by
 unfold freshG
 rw [upd_ne (by omega), upd_ne (by omega), upd_ne (by omega), upd_ne (by omega)]
theorem HMem.fresh (h : HMem 0 w base H A S f g G mode m q ow) {c : Nat} (hc : c < 6) (hcl : m.cl.length = 6) :
  HMem 0 ((((w.setCell ⟨A, c * 4, none⟩ (.string ⟨#[]⟩)).setCell ⟨A, c * 4 + 1, none⟩ (.slice none 0 0)).setCell ⟨A, c * 4 + 2, none⟩ (.int .i64 (-1))).setCell ⟨A, c * 4 + 3, none⟩ (g (c * 4 + 3))) base H A S f (freshG g c) (upd G (c + 3) none) mode (m.set c Cl.new) (upd q c []) ow := by
 have hcl' : c < m.cl.length := by omega
 have hk : ∀ b, b ≠ A → ((((w.setCell ⟨A, c * 4, none⟩ (.string ⟨#[]⟩)).setCell ⟨A, c * 4 + 1, none⟩ (.slice none 0 0)).setCell ⟨A, c * 4 + 2, none⟩ (.int .i64 (-1))).setCell ⟨A, c * 4 + 3, none⟩ (g (c * 4 + 3))).heap[b]? = w.heap[b]? := fun b hb => by
  rw [set_off _ A _ _ b hb, set_off _ A _ _ b hb, set_off _ A _ _ b hb, set_off _ A _ _ b hb]
 have hz : ((((w.setCell ⟨A, c * 4, none⟩ (.string ⟨#[]⟩)).setCell ⟨A, c * 4 + 1, none⟩ (.slice none 0 0)).setCell ⟨A, c * 4 + 2, none⟩ (.int .i64 (-1))).setCell ⟨A, c * 4 + 3, none⟩ (g (c * 4 + 3))).heap.size = w.heap.size := by rw [size_set, size_set, size_set, size_set]
 have up : ∀ i, i ≠ c + 3 → upd G (c + 3) none i = G i := fun i hi => by unfold upd; rw [if_neg hi]
 have upX : upd G (c + 3) none (c + 3) = none := by unfold upd; rw [if_pos rfl]
 have sub : ∀ i b, upd G (c + 3) none i = some b → G i = some b := fun i b hb => by
  by_cases e : i = c + 3
  ·rw [e, upX] at hb; cases hb
  ·rw [up i e] at hb; exact hb
 have hHA := h.ne h.g0 h.g1 (by omega)
 have hSA := h.ne h.g2 h.g1 (by omega)
 have at4 := freshG_at g c
 have gt : ∀ d, (m.set c Cl.new).get d = if c = d then Cl.new else m.get d := fun d => get_set hcl'
 refine ⟨h.h.same (hk H hHA), (((h.a.set _ _).set _ _).set _ _).set _ _, (h.ref.keep (by omega) (hk S hSA) (fun b hb _ => hk b (fun e => hb 1 (by rw [e]; exact h.g1)))).mono fun b hb => free_less hb, (up 0 (by omega)).trans h.g0, (up 1 (by omega)).trans h.g1, (up 2 (by omega)).trans h.g2, fun i b hi => by rw [hz]; exact h.lo i b (sub i b hi), fun i j b hi hj => h.inj i j b (sub i b hi) (sub j b hj), fun k h1 h2 h3 => ?_, h.md, h.f3, h.f4, fun d hd => ?_, fun d hd => ?_, fun d hd => ?_⟩
 ·by_cases ek : k = c + 3
  ·subst ek
   have e2 : upd q c [] c = [] := by unfold upd; rw [if_pos rfl]
   rw [upX, hV_w _ _ hc, hI_w _ _ _ hc, e2, at4.2.1]
   exact Sl.nil_ _ _ _
  ·have e1 : hV f (freshG g c) k = hV f g k := by
    unfold hV
    split
    ·exact freshG_ne (d := k - 3) (j := 1) (by omega) (by omega)
    ·rfl
   have e2 : hI (m.set c Cl.new) (upd q c []) ow k = hI m q ow k := hI_cut rfl rfl (fun d hd => by unfold upd; rw [if_neg hd]) k h1 ek
   rw [up k ek, e1, e2]
   exact (h.sl k h1 h2 h3).keep fun b hb => hk b (h.ne hb h.g1 (by omega))
 ·rw [gt]
  by_cases e : c = d
  ·subst e; rw [at4.1, if_pos rfl]; rfl
  ·rw [if_neg e]; exact (freshG_ne (j := 0) (fun e' => e e'.symm) (by omega)).trans (h.bytes d hd)
 ·rw [gt]
  by_cases e : c = d
  ·subst e; rw [at4.2.2.1, if_pos rfl]; rfl
  ·rw [if_neg e]; exact (freshG_ne (j := 2) (fun e' => e e'.symm) (by omega)).trans (h.srv d hd)
 ·by_cases e : c = d
  ·subst e; rw [at4.2.2.2]; exact h.sent _ hd
  ·exact (freshG_ne (j := 3) (fun e' => e e'.symm) (by omega)).trans (h.sent d hd)
theorem HMem.dropG {X : Nat} (h : HMem X w base H A S f g G mode m q ow) (hX : 3 ≤ X) : HMem X w base H A S f g (upd G X none) mode m q ow := by
 have up : ∀ i, i ≠ X → upd G X none i = G i := fun i hi => by unfold upd; rw [if_neg hi]
 have upX : upd G X none X = none := by unfold upd; rw [if_pos rfl]
 have sub : ∀ i b, upd G X none i = some b → G i = some b := fun i b hb => by
  by_cases e : i = X
  ·rw [e, upX] at hb; cases hb
  ·rw [up i e] at hb; exact hb
 exact ⟨h.h, h.a, h.ref.mono fun b hb => free_less hb, (up 0 (by omega)).trans h.g0, (up 1 (by omega)).trans h.g1, (up 2 (by omega)).trans h.g2, fun i b hi => h.lo i b (sub i b hi), fun i j b hi hj => h.inj i j b (sub i b hi) (sub j b hj), fun k h1 h2 h3 => by rw [up k h3]; exact h.sl k h1 h2 h3, h.md, h.f3, h.f4, h.bytes, h.srv, h.sent⟩
theorem HMem.newLine (h : HMem 0 w base H A S f g G mode m q ow) (hb : Below w.heap.size w w') {v : Value} {g' : Option Nat} (l : List Nat) (hs : Sl w' 3 1 v g' l.length (l.map numV)) (hg : ∀ b, g' = some b → w.heap.size ≤ b ∧ b < w'.heap.size) :
  HMem 0 (w'.setCell ⟨H, 6, none⟩ v) base H A S (upd f 6 v) g (upd G 10 g') mode { m with line := l } q ow := by
 have h0 : HMem 10 w' base H A S f g (upd G 10 g') mode m q ow := by
  cases g' with
  | none => exact ((h.but 10).below hb).dropG (by omega)
  | some b => exact (h.but 10).move (by omega) hb.size (fun x hx _ => hb.block x hx) (hg b rfl).1 (hg b rfl).2 h.bH.2.2
 have h1 := h0.cellH (by omega) (by omega) v
 refine h1.fill ?_ (fun k _ h2 h3 => ?_) rfl (fun _ _ => rfl) (fun _ _ => rfl) (fun _ _ => rfl)
 ·have e2 : upd G 10 g' 10 = g' := by unfold upd; rw [if_pos rfl]
  have e3 : hV (upd f 6 v) g 10 = v := by unfold hV; rw [if_neg (by omega)]; exact upd_at
  rw [show hT 10 = 3 from rfl, show hZ 10 = 1 from rfl, hI_l, e2, e3, List.length_map, flat_nat]
  exact (show Sl w' _ 1 v g' l.length (l.map fun (n : Nat) => Value.int .i64 (n : Int)) from hs).keep fun x hx => set_off w' H 6 _ x (fun e => by have := (hg x hx).1; have := h.h.lt; omega)
 ·unfold hI
  split
  ·rfl
  ·split
   ·rfl
   ·rfl
theorem HMem.zeroS (h : HMem 0 w base H A S f g G mode m q ow) {c : Nat} (hc : c < m.e.ss.length) : HMem 0 (set5 w S (c * 5) (.int .i64 0) (.slice none 0 0) (.slice none 0 0) (.slice none 0 0) (.slice none 0 0)) base H A S f g G mode { m with e := m.e.put c Sess.zero } q ow := by
 have hS := h.g2
 have hk : ∀ b, b ≠ S → (set5 w S (c * 5) (.int .i64 0) (.slice none 0 0) (.slice none 0 0) (.slice none 0 0) (.slice none 0 0)).heap[b]? = w.heap[b]? := fun b hb => by
  unfold set5
  rw [set_off _ S _ _ b hb, set_off _ S _ _ b hb, set_off _ S _ _ b hb, set_off _ S _ _ b hb, set_off _ S _ _ b hb]
 have hz : (set5 w S (c * 5) (.int .i64 0) (.slice none 0 0) (.slice none 0 0) (.slice none 0 0) (.slice none 0 0)).heap.size = w.heap.size := by unfold set5; rw [size_set, size_set, size_set, size_set, size_set]
 have hQ : ∀ b, Free G b → b ≠ S := fun b hb e => hb 2 (by rw [e]; exact hS)
 refine h.sess ⟨by omega, fun b _ hb => hk b hb⟩ ?_
 have nn : ∀ (Q : Nat → Prop), InP Q (.slice none 0 0) [] := fun Q => InP.nil_ Q _
 exact h.ref.put (s' := Sess.zero) (rows' := m.e.rows) (r' := f 2) (T := fun b => b ≠ S) hc hQ hz (fun b hb _ => hk b (hQ b hb)) (fun b hb => hk b hb) (Below.refl _ _) rfl h.ref.rows (Lst.none_ _ _) (Lst.none_ _ _) (Lst.none_ _ _) (Lst.none_ _ _) (h.ref.rin.mono fun b hb => ⟨hb, hQ b hb⟩) (nn _) (nn _) (nn _) (nn _)
end
end Go.Proofs.YtpbaobmegomfpabGreatDoor
