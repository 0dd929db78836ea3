/-
  Texts of the proof, one behind the other: BCopy, BTx, BackPut, RefAt, RefMay, BCnt.
-/
import Derived.Test.YtpbaobmegomfpabGreatDoorM2
import Derived.Test.YtpbaobmegomfpabGreatDoorRows
import Derived.Test.YtpbaobmegomfpabGreatDoorM4
import Derived.Laws.MakeOwn
import Derived.Laws.Entries
import Derived.Deep.RegionHeld3
import Derived.Deep.RegionWith
import Derived.Test.YtpbaobmegomfpabGreatDoorM7
import Derived.Deep.QuietTactic
import Derived.BigQuiet
import Derived.Test.YtpbaobmegomfpabGreatDoorM3
import Derived.Maps.Own
import Derived.Maps.OwnOps
import Derived.Maps.OwnSet
import Derived.WalkArith
set_option linter.unusedVariables false
set_option linter.unusedSimpArgs false
set_option maxRecDepth 100000
open List renaming getElem_toArray → gTA, getElem_cons_zero → gCZ, getElem_cons_succ → gCS, setIfInBounds_toArray → sTA, set_cons_zero → sCZ, set_cons_succ → sCS
open Go.Lib renaming hid → jD
open Nat renaming le_refl → nL
namespace Go.Proofs.YtpbaobmegomfpabGreatDoor
open Go.RowKit
theorem madeCells_size (cs : Array Value) (n : Nat) : (madeCells cs n).size = n := by simp [madeCells]
theorem pair_info : (Tryz.prog.info? 60).map (fun i => (i.zero, i.size, i.bytes)) = some (some (.agg #[.string ⟨#[]⟩, .string ⟨#[]⟩]), 2, 32) := by kernel_rfl
theorem make_pairs (n : Nat) (h : n * 32 ≤ 140737488351232) (w : World) :
  (Instr.makeSlice 27 (.int .i64 (n : Int)) (.int .i64 (n : Int))).run Tryz.prog w = .ok (.slice (some ⟨w.heap.size, 0, none⟩) n n) (w.alloc (.cells (madeCells (Value.agg #[.string ⟨#[]⟩, .string ⟨#[]⟩]).cells (n * 2)) 60)) := by
 obtain ⟨i0, hi, hz0, hz1, hz2⟩ := info_parts pair_info
 have hr := run_make (P := Tryz.prog) w 27 60 i0 _ Tryz.underlying27 hi hz0 .i64 .i64 (n : Int) (n : Int) (by omega) (Int.le_refl _) (by rw [hz2]; omega) (by omega)
 rw [hz1] at hr
 simpa only [Int.toNat_natCast] using hr
theorem cell_set2 {w : World} {b R i j k : Nat} {u x y : Value} (h : w.cell? ⟨b, i, none⟩ = some u) (hne : b ≠ R) :
  ((w.setCell ⟨R, j, none⟩ x).setCell ⟨R, k, none⟩ y).cell? ⟨b, i, none⟩ = some u := by
 simp [go_sem, h]
theorem cell_neu (w : World) (cs : Array Value) (t : TypeId) (i : Nat) (h : i < cs.size) : (w.alloc (.cells cs t)).cell? ⟨w.heap.size, i, none⟩ = some cs[i] := by
 rw [World.cell?_alloc_at _ _ _ _ rfl, Array.getElem?_eq_getElem h]
theorem bel_add {B : Nat} {a b c : World} (h : Below B a b) (k : Below b.heap.size b c) (hB : B ≤ b.heap.size) : Below B a c := h.trans (k.mono hB)
theorem bel_addN {B n : Nat} {a b c : World} (h : Below B a b) (k : Below (b.drewN n).heap.size (b.drewN n) c) (hB : B ≤ b.heap.size) : Below B a c :=
 h.trans ⟨k.os, k.tape, k.output, k.size, fun i hi => k.block i (Nat.lt_of_lt_of_le hi hB)⟩
set_option maxHeartbeats 1000000 in
theorem copyPairs_any (v : Value) (l : PL) (w : World) (hl : Lst w w.heap.size v l) :
  Calls Tryz.prog 63 #[v] w fun e w' => ∃ g, e = .returned (.slice (some ⟨g, 0, none⟩) l.length l.length) ∧ w.heap.size ≤ g ∧ RowTo w' g 60 (l.length * 2) (flat l) ∧ Below w.heap.size w w' := by
 obtain ⟨A, c, rfl, hc⟩ := hl.form
 have hby := hl.bytes
 have hmk := make_pairs l.length hby
 have HL := jD hl
 clear hl
 go_enter Tryz.func63, Tryz.ntmps63
 go_wp2
 clear hmk
 go_loopw [11] (fun i wr => ∃ k : Nat, k ≤ l.length ∧ i = .int .i64 k ∧ RowTo wr w.heap.size 60 (l.length * 2) (flat (l.take k)) ∧ Below w.heap.size w wr) (fun i _ => l.length - (intOf i).toNat)
 case atStart =>
  refine ⟨0, by omega, rfl, ?_, (Below.refl _ _).alloc (nL _) _⟩
  have := RowTo.new w (madeCells #[.string ⟨#[]⟩, .string ⟨#[]⟩] (l.length * 2)) 60
  rw [madeCells_size] at this
  exact this
 case round =>
  obtain ⟨k, hk, rfl, hrow, bel⟩ := hrel
  by_cases hlt : k < l.length
  ·obtain ⟨b, off, rfl, hb, c0, c1⟩ := HL.out.pt hlt
   obtain ⟨z0, z1⟩ := HL.out.key hlt
   have hwlt := hrow.lt
   have d0 := (bel.cell (p := ⟨b, off + k * 2, none⟩) hb).trans c0
   have d1 := (bel.cell (p := ⟨b, off + k * 2 + 1, none⟩) hb).trans c1
   have HS := jD (flat_step l k hlt)
   have hlen := jD (show (flat (l.take k)).length = k * 2 by rw [flat_length, List.length_take]; omega)
   have HR := jD hrow
   have HB := jD bel
   clear hrow bel c0 c1
   go_wp2
   clear d0 d1
   generalize hq0 : l[k].1 = s0 at *
   generalize hq1 : l[k].2 = s1 at *
   have HQ := jD (And.intro hq0 hq1)
   clear hq0 hq1
   have e0 := cell_neu wr #[.string s0, .string s1] 60 0 (by simp)
   have e1 := cell_neu wr #[.string s0, .string s1] 60 1 (by simp)
   simp only [gTA, gCZ, gCS] at e0 e1
   have R0 := jD (HR.out.alloc (.cells #[.string s0, .string s1] 60))
   have B0 := jD (HB.out.alloc HB.out.size (.cells #[.string s0, .string s1] 60))
   have hz0 : wr.heap.size < (wr.alloc (.cells #[.string s0, .string s1] 60)).heap.size := by simp
   generalize wr.alloc (.cells #[.string s0, .string s1] 60) = W0 at *
   have kb := Below.refl W0.heap.size W0
   have hz1 : w.heap.size < W0.heap.size := by omega
   have hne : wr.heap.size ≠ w.heap.size := by omega
   go_region_held3 (fun wx => wx.cell? ⟨wr.heap.size, 0, none⟩ = some (.string s0) ∧ wx.cell? ⟨wr.heap.size, 1, none⟩ = some (.string s1))
    (first | exact ⟨e0, e1⟩ | exact ⟨cell_set2 ((kb.cell (p := ⟨wr.heap.size, 0, none⟩) hz0).trans e0) hne, cell_set2 ((kb.cell (p := ⟨wr.heap.size, 1, none⟩) hz0).trans e1) hne⟩ | exact ⟨(kb.cell (p := ⟨wr.heap.size, 0, none⟩) hz0).trans e0, (kb.cell (p := ⟨wr.heap.size, 1, none⟩) hz0).trans e1⟩)
    (first
     | (
      go_at_call_of 46 (Value.string s0)
      refine (clone_any s0 _ (by omega)).mono ?_
      rintro e w3 ⟨rfl, hy⟩
      have kb : Below W0.heap.size W0 w3 := by first | exact bel_add kb hy kb.size | exact bel_addN kb hy kb.size
      have R1 := jD (R0.out.below kb hz1)
      obtain ⟨u0, f0⟩ := R1.out.any (j := k * 2) (by omega)
      obtain ⟨u1, f1⟩ := R1.out.any (j := k * 2 + 1) (by omega)
      have g0 := R1.out.frozen (k * 2)
      have g1 := R1.out.frozen (k * 2 + 1))
     | (
      go_at_call_of 46 (Value.string s1)
      refine (clone_any s1 _ (by omega)).mono ?_
      rintro e w3 ⟨rfl, hy⟩
      have kb : Below W0.heap.size W0 w3 := by first | exact bel_add kb hy kb.size | exact bel_addN kb hy kb.size
      have R1 := jD (R0.out.below kb hz1)
      obtain ⟨u0, f0⟩ := R1.out.any (j := k * 2) (by omega)
      obtain ⟨u1, f1⟩ := R1.out.any (j := k * 2 + 1) (by omega)
      have g0 := R1.out.frozen (k * 2)
      have g1 := R1.out.frozen (k * 2 + 1)))
   go_wp2
   go_roundw
   case rel =>
    have l1 := hlen.out
    refine ⟨k + 1, by omega, by go_num, ?_, ?_⟩
    ·rw [HS.out]
     exact (R1.out.push (by omega) _ l1.symm).push (by simp; omega) _ (by simp; omega)
    ·exact ((B0.out.trans (kb.mono (by omega))).setCell (nL _) _).setCell (nL _) _
   case measure => simp [intOf]; omega
  ·go_wp2
   go_ret
   refine ⟨w.heap.size, rfl, nL _, ?_, bel⟩
   rw [List.take_of_length_le (by omega)] at hrow
   exact hrow
def Rest (w w' : World) (X S gR : Nat) (G : Nat → Nat → Nat) (n : Nat) : Prop := ∀ b, b < w.heap.size → b ≠ X → b ≠ S → b ≠ gR → (∀ i j, i < n → j < 4 → b ≠ G i j) → w'.heap[b]? = w.heap[b]?
def DonePost (w : World) (base X S gR : Nat) (G : Nat → Nat → Nat) (n : Nat) (W : Wd) (e : Ending) (w' : World) : Prop := e = .returned (ansV 1 ⟨#[]⟩) ∧ EndW w' base X S W ∧ Below base w w' ∧ Rest w w' X S gR G n
theorem getD_at {W : Wd} {i : Nat} (h : i < W.ss.length) : W.at i = W.ss[i] := by
 unfold Wd.at
 rw [List.getD_eq_getElem?_getD, List.getElem?_eq_getElem h]
 rfl
structure Chs (w w' wS : World) (S : Nat) : Prop where
 os : w'.os = w.os
 tape : w'.tape = w.tape
 output : w'.output = w.output
 size : w.heap.size ≤ w'.heap.size
 other : ∀ b, b < w.heap.size → b ≠ S → w'.heap[b]? = w.heap[b]?
 here : w'.heap[S]? = wS.heap[S]?
theorem Chs.refl (w : World) (S : Nat) : Chs w w w S := ⟨rfl, rfl, rfl, nL _, fun _ _ _ => rfl, rfl⟩
theorem Chs.below {w w' w'' wS : World} {S B : Nat} (h : Chs w w' wS S) (hb : Below B w' w'') (hB : w.heap.size ≤ B) (hS : S < w.heap.size) : Chs w w'' wS S :=
 ⟨hb.os.trans h.os, hb.tape.trans h.tape, hb.output.trans h.output, Nat.le_trans h.size hb.size, fun b hbl hne => (hb.block b (by omega)).trans (h.other b hbl hne), (hb.block S (by omega)).trans h.here⟩
theorem Chs.alloc {w w' wS : World} {S : Nat} (h : Chs w w' wS S) (hS : S < w.heap.size) (o : Obj) : Chs w (w'.alloc o) wS S :=
 h.below (B := w'.heap.size) ((Below.refl _ _).alloc (nL _) o) h.size hS
theorem Chs.setS {w w' wS : World} {S j : Nat} (h : Chs w w' wS S) (v : Value) : Chs w (w'.setCell ⟨S, j, none⟩ v) (wS.setCell ⟨S, j, none⟩ v) S :=
 ⟨h.os, h.tape, h.output, by simpa [World.setCell] using h.size, fun b hb hne => (Below.heap_setCell _ _ _ _ hne).trans (h.other b hb hne), setCell_block (p := ⟨S, j, none⟩) h.here⟩
theorem Chs.setN {w w' wS : World} {S : Nat} (h : Chs w w' wS S) {p : Addr} (hp : w.heap.size ≤ p.block) (hS : S < w.heap.size) (v : Value) : Chs w (w'.setCell p v) wS S :=
 ⟨h.os, h.tape, h.output, by simpa [World.setCell] using h.size, fun b hb hne => (Below.heap_setCell _ _ _ _ (by omega)).trans (h.other b hb hne), (Below.heap_setCell _ _ _ _ (by omega)).trans h.here⟩
theorem Chs.bel {w w' wS : World} {S base : Nat} (h : Chs w w' wS S) (hb : base ≤ S) (hw : base ≤ w.heap.size) : Below base w w' :=
 ⟨h.os, h.tape, h.output, h.size, fun k hk => h.other k (by omega) (by omega)⟩
theorem OwnD.turned {w w' wS : World} {X S gR cR : Nat} {G C : Nat → Nat → Nat} {W : Wd} {base : Nat} (h : OwnD w X S gR cR G C W) (lo : LoD base X S gR G W.ss.length) {v1 v2 v3 v4 : Value} (lv : LoV base v1 ∧ LoV base v2 ∧ LoV base v3 ∧ LoV base v4) (hz : SzW W) {i : Nat} (hi : i < W.ss.length) {s' : Sess} (hc : Chs w w' wS S)
  (hblk : RowTo wS S 115 (W.ss.length * 5) []) (hS : ∀ k j, k ≠ i → j < 5 → wS.cell? ⟨S, k * 5 + j, none⟩ = w.cell? ⟨S, k * 5 + j, none⟩)
  (c0 : wS.cell? ⟨S, i * 5, none⟩ = some (.int .i64 s'.st)) (c1 : wS.cell? ⟨S, i * 5 + 1, none⟩ = some v1) (c2 : wS.cell? ⟨S, i * 5 + 2, none⟩ = some v2) (c3 : wS.cell? ⟨S, i * 5 + 3, none⟩ = some v3) (c4 : wS.cell? ⟨S, i * 5 + 4, none⟩ = some v4)
  (l1 : Lst w' w'.heap.size v1 s'.set) (l2 : Lst w' w'.heap.size v2 s'.prep) (l3 : Lst w' w'.heap.size v3 s'.sav) (l4 : Lst w' w'.heap.size v4 s'.wr) : EndW w' base X S (W.put i s') := by
 have cc : ∀ j, w'.cell? ⟨S, j, none⟩ = wS.cell? ⟨S, j, none⟩ := fun j => World.cell?_of_block hc.here
 refine h.left lo (LoV.slc lo.r) lv hz hi hc.size (h.box.same (hc.other X h.box.lt h.neXS)) (hblk.same hc.here) ((h.rows.same (hc.other gR h.rows.row.lt h.neRS)).lst (by have := hz.rows.1; omega) hz.rows.sz)
  (fun k j hk hj => (cc _).trans (hS k j hk hj)) (fun k j hk hne hj => hc.other _ (h.ls k j hk hj).row.lt (h.neGS k j hk hj)) ⟨(cc _).trans c0, (cc _).trans c1, (cc _).trans c2, (cc _).trans c3, (cc _).trans c4, l1, l2, l3, l4⟩
theorem OwnD.li_kept {w w' wS : World} {X S gR cR : Nat} {G C : Nat → Nat → Nat} {W : Wd} (h : OwnD w X S gR cR G C W) (hz : SzW W) {i j : Nat} (hi : i < W.ss.length) (hj : j < 4) (hc : Chs w w' wS S) : Lst w' w'.heap.size (slc (G i j) (W.ss[i].li j).length (C i j)) (W.ss[i].li j) :=
 ((h.ls i j hi hj).same (hc.other _ (h.ls i j hi hj).row.lt (h.neGS i j hi hj))).lst (by have := (hz.li i j hi hj).1; omega) (hz.li i j hi hj).sz
set_option maxHeartbeats 2000000 in
theorem begin_ok (base X S gR cR : Nat) (G C : Nat → Nat → Nat) (W : Wd) (i : Nat) (w : World) (h : OwnD w X S gR cR G C W) (lo : LoD base X S gR G W.ss.length) (hz : SzW W) (hb : base ≤ w.heap.size) (hi : i < W.ss.length) (hst : W.ss[i].st = 0) :
  Calls Tryz.prog 65 #[.pointer (some ⟨S, i * 5, none⟩)] w (DonePost w base X S gR G W.ss.length (W.put i { W.ss[i] with st := 1, sav := W.ss[i].set })) := by
 have c0 := h.st i hi
 rw [hst] at c0
 have c1 : w.cell? ⟨S, i * 5 + 1, none⟩ = some (.slice (some ⟨G i 0, 0, none⟩) W.ss[i].set.length (C i 0)) := h.cs i 0 hi (by omega)
 have hSw := h.blk.lt
 have hO := h.ls i 0 hi (by omega)
 have hne := h.neGS i 0 hi (by omega)
 have f0 := h.blk.frozen (i * 5)
 have f3 := h.blk.frozen (i * 5 + 3)
 obtain ⟨u3, d3⟩ := h.blk.any (j := i * 5 + 3) (by omega)
 have hs0 := (hz.li i 0 hi (by omega))
 have H := jD h
 have HO := jD hO
 have HZ := jD hz
 have H60 := jD hs0
 clear h hO hs0
 go_enter Tryz.func65, Tryz.ntmps65
 go_wp2_with fail
 have ch1 := ((Chs.refl w S).setS (j := i * 5) (.int .i64 1)).alloc hSw (.cells #[.int .i64 0, .string ⟨#[]⟩, .int .i64 0] 46)
 have O1 : Lst ((w.setCell ⟨S, i * 5, none⟩ (.int .i64 1)).alloc (.cells #[.int .i64 0, .string ⟨#[]⟩, .int .i64 0] 46)) ((w.setCell ⟨S, i * 5, none⟩ (.int .i64 1)).alloc (.cells #[.int .i64 0, .string ⟨#[]⟩, .int .i64 0] 46)).heap.size (.slice (some ⟨G i 0, 0, none⟩) W.ss[i].set.length (C i 0)) W.ss[i].set :=
  (HO.out.same (ch1.other _ HO.out.row.lt hne)).lst (by have := H60.out.1; omega) H60.out.sz
 refine (copyPairs_any _ W.ss[i].set _ O1).mono ?_
 rintro e w2 ⟨g, rfl, q, rr, hy⟩
 have ch2 := ch1.below hy ch1.size hSw
 have X0 : RowTo w2 w.heap.size 46 3 [.int .i64 0, .string ⟨#[]⟩, .int .i64 0] := by
  have := (RowTo.whole (w.setCell ⟨S, i * 5, none⟩ (.int .i64 1)) #[.int .i64 0, .string ⟨#[]⟩, .int .i64 0] 46).below hy (by simp [World.setCell])
  simpa [World.setCell] using this
 have cS : ∀ j, w2.cell? ⟨S, j, none⟩ = (w.setCell ⟨S, i * 5, none⟩ (.int .i64 1)).cell? ⟨S, j, none⟩ := fun j => World.cell?_of_block ch2.here
 have fS : ∀ j, w2.frozen? ⟨S, j, none⟩ = (w.setCell ⟨S, i * 5, none⟩ (.int .i64 1)).frozen? ⟨S, j, none⟩ := fun j => World.frozen?_of_block ch2.here
 have d3' : w2.cell? ⟨S, i * 5 + 3, none⟩ = some u3 := by rw [cS, cell_off _ (by omega)]; exact d3
 have f3' : w2.frozen? ⟨S, i * 5 + 3, none⟩ = false := by rw [fS, World.frozen?_setCell]; exact f3
 have hgw : w.heap.size < g := by have := q; simp [World.setCell] at this; omega
 have HC := jD ch2
 have HX := jD X0
 have HR := jD rr
 clear ch1 ch2 O1 hy X0 cS fS rr d3 f3 q
 go_wp2_with fail
 refine (done_any _).mono ?_
 rintro e w3 ⟨rfl, hy3⟩
 have ch3 := (HC.out.setS (j := i * 5 + 3) (.slice (some ⟨g, 0, none⟩) W.ss[i].set.length W.ss[i].set.length)).below hy3 (by have := HC.out.size; simpa [World.setCell] using this) hSw
 have X3 := (HX.out.other (p := ⟨S, i * 5 + 3, none⟩) (by show S ≠ _; omega) (.slice (some ⟨g, 0, none⟩) W.ss[i].set.length W.ss[i].set.length)).below hy3 (by have := HX.out.lt; simpa [World.setCell] using this)
 have R3 := (HR.out.other (p := ⟨S, i * 5 + 3, none⟩) (by show S ≠ g; omega) (.slice (some ⟨g, 0, none⟩) W.ss[i].set.length W.ss[i].set.length)).below hy3 (by have := HR.out.lt; simpa [World.setCell] using this)
 have r0 := X3.cell (j := 0) (by simp)
 have r1 := X3.cell (j := 1) (by simp)
 have r2 := X3.cell (j := 2) (by simp)
 have s0 := X3.frozen 0
 have s1 := X3.frozen 1
 have s2 := X3.frozen 2
 simp only [gCZ, gCS] at r0 r1 r2
 have HC3 := jD ch3
 have HR3 := jD R3
 clear ch3 X3 hy3 R3
 unfold ansV
 go_wp2
 refine bodyPost_ret (v := .agg #[.int .i64 1, .string ⟨#[]⟩, .int .i64 0]) (by simp [results, Tryz.results65, go_sem, r0, r1, r2]) rfl ?_
 have ch := ((HC3.out.setN (p := ⟨w.heap.size, 0, none⟩) (nL _) hSw (.int .i64 1)).setN (p := ⟨w.heap.size, 1, none⟩) (nL _) hSw (.string ⟨#[]⟩)).setN (p := ⟨w.heap.size, 2, none⟩) (nL _) hSw (.int .i64 0)
 refine ⟨rfl, ?_, ch.bel lo.s hb, fun b hb _ h2 _ _ => ch.other b hb h2⟩
 have hh := H.out
 have hzz := HZ.out
 have hrow := (hh.blk.hit (j := i * 5) (.int .i64 1)).hit (j := i * 5 + 3) (.slice (some ⟨g, 0, none⟩) W.ss[i].set.length W.ss[i].set.length)
 refine hh.turned lo ?_ (v3 := .slice (some ⟨g, 0, none⟩) W.ss[i].set.length W.ss[i].set.length) hzz hi ch hrow (fun k j hk hj => ?_) ?_ ?_ ?_ ?_ ?_ (hh.li_kept hzz hi (j := 0) (by omega) ch) (hh.li_kept hzz hi (j := 1) (by omega) ch) ?_ (hh.li_kept hzz hi (j := 3) (by omega) ch)
 ·exact ⟨lo.v hi (by omega), lo.v hi (by omega), LoV.at (by omega), lo.v hi (by omega)⟩
 ·rw [cell_off _ (by omega), cell_off _ (by omega)]
 ·rw [cell_off _ (by omega)]; exact cell_put hh.blk (by omega) _
 ·rw [cell_off _ (by omega), cell_off _ (by omega)]; exact hh.cs i 0 hi (by omega)
 ·rw [cell_off _ (by omega), cell_off _ (by omega)]; exact hh.cs i 1 hi (by omega)
 ·exact cell_put (hh.blk.hit _) (by omega) _
 ·rw [cell_off _ (by omega), cell_off _ (by omega)]; exact hh.cs i 3 hi (by omega)
 ·have hgr : w.heap.size ≠ g := by omega
  have R4 := ((HR3.out.other (p := ⟨w.heap.size, 0, none⟩) hgr (.int .i64 1)).other (p := ⟨w.heap.size, 1, none⟩) hgr (.string ⟨#[]⟩)).other (p := ⟨w.heap.size, 2, none⟩) hgr (.int .i64 0)
  exact R4.lst (nL _) R4.lt (by have := H60.out.1; show W.ss[i].set.length * 32 ≤ _; have e : (W.ss[i].li 0).length = W.ss[i].set.length := rfl; omega) H60.out.sz
set_option maxHeartbeats 1000000 in
theorem reset_no (w : World) (p : Addr) (st : Int) (hc : w.cell? p = some (.int .i64 st)) (hst : st ≠ 0) :
  Calls Tryz.prog 67 #[.pointer (some p)] w fun e w' => e = .returned (ansV 4 tNotIn) ∧ Below w.heap.size w w' := by
 have hp := World.block_lt_of_cell? w _ hc
 have h1 : (st != 0) = true := bne_iff_ne.2 hst
 clear hst
 go_enter Tryz.func67, Tryz.ntmps67
 go_wp2_with fail
 refine (failure_any tNotIn _).mono ?_
 rintro e w9 ⟨rfl, hb9⟩
 have X9 := (RowTo.whole w #[.int .i64 0, .string ⟨#[]⟩, .int .i64 0] 46).below hb9 (by simp)
 have r0 := X9.cell (j := 0) (by simp)
 have r1 := X9.cell (j := 1) (by simp)
 have r2 := X9.cell (j := 2) (by simp)
 have s0 := X9.frozen 0
 have s1 := X9.frozen 1
 have s2 := X9.frozen 2
 simp only [gCZ, gCS] at r0 r1 r2
 have B9 := jD (bel_add' ((Below.refl w.heap.size w).alloc (nL _) _) hb9 (by simp))
 clear X9 hb9
 unfold ansV
 go_wp2
 refine bodyPost_ret (v := .agg #[.int .i64 4, .string tNotIn, .int .i64 0]) (by simp [results, Tryz.results67, go_sem, r0, r1, r2]) rfl ⟨rfl, ?_⟩
 exact ((B9.out.setCell (by simp) _).setCell (by simp) _).setCell (by simp) _
set_option maxHeartbeats 2000000 in
theorem reset_ok (base X S gR cR : Nat) (G C : Nat → Nat → Nat) (W : Wd) (i : Nat) (w : World) (h : OwnD w X S gR cR G C W) (lo : LoD base X S gR G W.ss.length) (hz : SzW W) (hb : base ≤ w.heap.size) (hi : i < W.ss.length) (hst : W.ss[i].st = 0) :
  Calls Tryz.prog 67 #[.pointer (some ⟨S, i * 5, none⟩)] w (DonePost w base X S gR G W.ss.length (W.put i { W.ss[i] with set := [], prep := [] })) := by
 have c0 := h.st i hi
 rw [hst] at c0
 have hSw := h.blk.lt
 have f1 := h.blk.frozen (i * 5 + 1)
 have f2 := h.blk.frozen (i * 5 + 2)
 obtain ⟨u1, d1⟩ := h.blk.any (j := i * 5 + 1) (by omega)
 obtain ⟨u2, d2⟩ := h.blk.any (j := i * 5 + 2) (by omega)
 have H := jD h
 have HZ := jD hz
 have HT := jD hst
 clear h hst
 go_enter Tryz.func67, Tryz.ntmps67
 go_wp2_with fail
 have ch1 := (((Chs.refl w S).setS (j := i * 5 + 1) (.slice none 0 0)).setS (j := i * 5 + 2) (.slice none 0 0)).alloc hSw (.cells #[.int .i64 0, .string ⟨#[]⟩, .int .i64 0] 46)
 have X0 : RowTo (((w.setCell ⟨S, i * 5 + 1, none⟩ (.slice none 0 0)).setCell ⟨S, i * 5 + 2, none⟩ (.slice none 0 0)).alloc (.cells #[.int .i64 0, .string ⟨#[]⟩, .int .i64 0] 46)) w.heap.size 46 3 [.int .i64 0, .string ⟨#[]⟩, .int .i64 0] := by
  have := RowTo.whole ((w.setCell ⟨S, i * 5 + 1, none⟩ (.slice none 0 0)).setCell ⟨S, i * 5 + 2, none⟩ (.slice none 0 0)) #[.int .i64 0, .string ⟨#[]⟩, .int .i64 0] 46
  simpa [World.setCell] using this
 refine (done_any _).mono ?_
 rintro e w3 ⟨rfl, hy3⟩
 have ch3 := ch1.below hy3 ch1.size hSw
 have X3 := X0.below hy3 X0.lt
 have r0 := X3.cell (j := 0) (by simp)
 have r1 := X3.cell (j := 1) (by simp)
 have r2 := X3.cell (j := 2) (by simp)
 have s0 := X3.frozen 0
 have s1 := X3.frozen 1
 have s2 := X3.frozen 2
 simp only [gCZ, gCS] at r0 r1 r2
 have HC3 := jD ch3
 clear ch1 ch3 X0 X3 hy3
 unfold ansV
 go_wp2
 refine bodyPost_ret (v := .agg #[.int .i64 1, .string ⟨#[]⟩, .int .i64 0]) (by simp [results, Tryz.results67, go_sem, r0, r1, r2]) rfl ?_
 have ch := ((HC3.out.setN (p := ⟨w.heap.size, 0, none⟩) (nL _) hSw (.int .i64 1)).setN (p := ⟨w.heap.size, 1, none⟩) (nL _) hSw (.string ⟨#[]⟩)).setN (p := ⟨w.heap.size, 2, none⟩) (nL _) hSw (.int .i64 0)
 refine ⟨rfl, ?_, ch.bel lo.s hb, fun b hb _ h2 _ _ => ch.other b hb h2⟩
 have hh := H.out
 have hzz := HZ.out
 have hrow := (hh.blk.hit (j := i * 5 + 1) (.slice none 0 0)).hit (j := i * 5 + 2) (.slice none 0 0)
 refine hh.turned lo ?_ (v1 := .slice none 0 0) (v2 := .slice none 0 0) hzz hi ch hrow (fun k j hk hj => ?_) ?_ ?_ ?_ ?_ ?_ (Lst.none_ _ _) (Lst.none_ _ _) (hh.li_kept hzz hi (j := 2) (by omega) ch) (hh.li_kept hzz hi (j := 3) (by omega) ch)
 ·exact ⟨LoV.non _ _ _, LoV.non _ _ _, lo.v hi (by omega), lo.v hi (by omega)⟩
 ·rw [cell_off _ (by omega), cell_off _ (by omega)]
 ·rw [cell_off _ (by omega), cell_off _ (by omega)]; exact hh.st i hi
 ·rw [cell_off _ (by omega)]; exact cell_put hh.blk (by omega) _
 ·exact cell_put (hh.blk.hit _) (by omega) _
 ·rw [cell_off _ (by omega), cell_off _ (by omega)]; exact hh.cs i 2 hi (by omega)
 ·rw [cell_off _ (by omega), cell_off _ (by omega)]; exact hh.cs i 3 hi (by omega)
theorem sub_len : ∀ {R l : PL}, risingB R = true → risingB l = true → (∀ p ∈ l, fndL R p.1 = true) → l.length ≤ R.length
 | [], [], _, _, _ => nL _
 | [], p :: l, _, _, h => by have := h p (by simp); cases this
 | q :: R, [], _, _, _ => by simp
 | q :: R, p :: l, hR, hl, h => by
  have tail : ∀ x, ltB q.1 x = true → fndL (q :: R) x = true → fndL R x = true := fun x hx hf => by
   unfold fndL at hf ⊢
   rwa [atL_no (eqB_false.2 (ltB_ne hx))] at hf
  have hp := h p (by simp)
  cases e : eqB q.1 p.1
  · -- the head of R is before p
   have hqp : ltB q.1 p.1 = true := by
    unfold fndL at hp
    rw [atL_no e] at hp
    obtain ⟨v, hv⟩ := Option.isSome_iff_exists.1 hp
    exact rising_head hR (p.1, v) (atL_mem hv)
   have := sub_len (R := R) (l := p :: l) (rising_tail hR) hl (fun x hx => by
    refine tail x.1 ?_ (h x hx)
    rcases List.mem_cons.1 hx with rfl | hx
    ·exact hqp
    ·exact ltB_trans hqp (rising_head hl x hx))
   simp only [List.length_cons] at this ⊢; omega
  ·have heq := eqB_iff.1 e
   have := sub_len (R := R) (l := l) (rising_tail hR) (rising_tail hl) (fun x hx => tail x.1 (by rw [heq]; exact rising_head hl x hx) (h x (by simp [hx])))
   simp only [List.length_cons]; omega
theorem fnd_ins {l : PL} {k v k' : ByteArray} (h : risingB l = true) : fndL (insL l k v) k' = (eqB k k' || fndL l k') := by
 unfold fndL
 rw [at_ins h]
 cases eqB k k' <;> simp
theorem sub_less {R l : PL} {k : ByteArray} (hR : risingB R = true) (hl : risingB l = true) (h : ∀ p ∈ l, fndL R p.1 = true) (hk : fndL R k = true) (hn : fndL l k = false) : l.length < R.length := by
 have h1 := sub_len (l := insL l k ⟨#[]⟩) hR (ins_rising hl) (fun p hp => by
  rcases ins_mem hp with rfl | hp
  ·exact hk
  ·exact h p hp)
 have hn' : ¬ (atL l k).isSome = true := by unfold fndL at hn; simp [hn]
 rw [ins_length hl, if_neg hn'] at h1
 omega
theorem allF_rising {R : PL} (h : risingB R = true) : ∀ l : PL, risingB (allF R l) = true := by
 intro l
 unfold allF
 induction l generalizing R with
 | nil => exact h
 | cons p l ih => rw [List.foldl_cons]; exact ih (by rw [plus_ins h]; exact ins_rising h)
theorem allF_fnd {R : PL} {k : ByteArray} (h : risingB R = true) : ∀ l : PL, fndL (allF R l) k = (fndL R k || fndL l k) := by
 intro l
 unfold allF
 induction l generalizing R with
 | nil => simp [fndL, atL]
 | cons p l ih =>
  rw [List.foldl_cons, ih (by rw [plus_ins h]; exact ins_rising h), plus_ins h, fnd_ins h]
  have : fndL (p :: l) k = (eqB p.1 k || fndL l k) := by
   unfold fndL
   cases e : eqB p.1 k
   ·rw [atL_no e]; simp
   ·rw [atL_yes e]; simp
  rw [this]
  cases eqB p.1 k <;> cases fndL R k <;> simp
theorem fnd_of_mem {l : PL} {p : ByteArray × ByteArray} (h : p ∈ l) : fndL l p.1 = true := atL_of_mem h
section
variable {W : Wd} (h : WorldOk W)
include h
theorem all_rising : risingB (allL W) = true := allF_rising (pairsB_rising h.rows).1 _
theorem all_rows {p : ByteArray × ByteArray} (hp : p ∈ W.rows) : fndL (allL W) p.1 = true := by
 unfold allL; rw [allF_fnd (pairsB_rising h.rows).1, fnd_of_mem hp]; rfl
theorem all_wr {i : Nat} (hi : i < W.ss.length) {p : ByteArray × ByteArray} (hp : p ∈ W.ss[i].wr) : fndL (allL W) p.1 = true := by
 unfold allL
 rw [allF_fnd (pairsB_rising h.rows).1, fnd_of_mem (List.mem_flatMap.2 ⟨W.ss[i], List.getElem_mem hi, hp⟩)]
 simp
theorem held_cnt {i : Nat} (hi : i < W.ss.length) (key : ByteArray) : heldB W.ss i key = (decide (0 < cntL (W.ss.flatMap (·.wr)) key) && !fndL W.ss[i].wr key) := by
 have hr : ∀ k (hk : k < W.ss.length), risingB W.ss[k].wr = true := fun k hk => (pairsB_rising (h.sess k hk).wr).1
 cases e : heldB W.ss i key
 ·symm
  rw [Bool.and_eq_false_iff]
  by_cases hc : 0 < cntL (W.ss.flatMap (·.wr)) key
  ·right
   obtain ⟨k, hk, h1⟩ := cnt_pos (ss := W.ss) (key := key) hc
   have hs := (some_cnt (hr k hk)).1 h1
   by_cases hki : k = i
   ·subst hki; unfold fndL; rw [hs]; rfl
   ·rw [heldB_yes hk hs (by omega)] at e; cases e
  ·left; exact decide_eq_false hc
 ·obtain ⟨k, hk, hs, hne⟩ := heldB_iff.1 e
  have h1 := (some_cnt (hr k hk)).2 hs
  have h2 := cnt_one (key := key) hk
  have h3 : fndL W.ss[i].wr key = false := by
   cases e2 : fndL W.ss[i].wr key
   ·rfl
   ·obtain ⟨v, hv⟩ := Option.isSome_iff_exists.1 e2
    have := h.apart i hi _ (atL_mem hv)
    rw [e] at this; cases this
  rw [h3, decide_eq_true (by omega)]; rfl
theorem room_wr {i : Nat} (hi : i < W.ss.length) {key : ByteArray} (hf : ¬ (fndL (allL W) key = false ∧ 100 ≤ (allL W).length)) : fndL W.ss[i].wr key = true ∨ W.ss[i].wr.length < 100 := by
 cases e : fndL W.ss[i].wr key
 ·right
  have hr := (pairsB_rising (h.sess i hi).wr).1
  cases e2 : fndL (allL W) key
  ·have := sub_len (all_rising h) hr (fun p hp => all_wr h hi hp)
   have h3 : ¬ 100 ≤ (allL W).length := fun h3 => hf ⟨e2, h3⟩
   omega
  ·have := sub_less (all_rising h) hr (fun p hp => all_wr h hi hp) e2 e
   have := h.all
   omega
 ·exact .inl rfl
theorem room_rows {key : ByteArray} (hf : ¬ (fndL (allL W) key = false ∧ 100 ≤ (allL W).length)) : fndL W.rows key = true ∨ W.rows.length < 100 := by
 cases e : fndL W.rows key
 ·right
  have hr := (pairsB_rising h.rows).1
  cases e2 : fndL (allL W) key
  ·have := sub_len (all_rising h) hr (fun p hp => all_rows h hp)
   have h3 : ¬ 100 ≤ (allL W).length := fun h3 => hf ⟨e2, h3⟩
   omega
  ·have := sub_less (all_rising h) hr (fun p hp => all_rows h hp) e2 e
   have := h.all
   omega
 ·exact .inl rfl
end
theorem allF_cons (out : PL) (p : ByteArray × ByteArray) (l : PL) : allF out (p :: l) = allF (plusL out p.1 ⟨#[]⟩) l := rfl
def AllBox (w : World) (r s : Value) (wr : World) : Prop := RowTo wr w.heap.size 39 2 [r, s]
def restOf (ss : List Sess) (i : Nat) : PL := (ss.drop i).flatMap (·.wr)
theorem restOf_step {ss : List Sess} {i : Nat} (h : i < ss.length) : restOf ss i = ss[i].wr ++ restOf ss (i + 1) := by
 unfold restOf; rw [List.drop_eq_getElem_cons h]; rfl
theorem restOf_end {ss : List Sess} {i : Nat} (h : ss.length ≤ i) : restOf ss i = [] := by
 unfold restOf; rw [List.drop_eq_nil_of_le h]; rfl
end Go.Proofs.YtpbaobmegomfpabGreatDoor
namespace Go.Proofs.YtpbaobmegomfpabGreatDoor
open Go.RowKit Go.Maps Go.WideMaps
theorem strLaw : Keyed Tryz.prog 9 := string_keyed Tryz.underlying9
theorem zeroInt (w : World) : (zeroValue 3).run Tryz.prog w = .ok (.int .i64 0) w := by kernel_rfl
theorem klKey {s : ByteArray} (h : s.size ≤ 140737488351232) : keyOf Tryz.prog 9 (.string s) = some (kl s) := keyOf_string_mk Tryz.underlying9 (by unfold maxLen; omega)
theorem lit_inj {a b : Int} (h : (DataW.lit (.int .i64 a) : DataW Unit) = .lit (.int .i64 b)) : a = b := by simpa using h
def RowsRel (w : World) (W : Wd) (r s : Value) (k : Nat) (wr : World) : Prop :=
 ∃ D : DataW Unit, wr.ownsMap Tryz.prog 9 (plainElem Tryz.prog 3) (w.heap.size + 1) k D ∧ MapOk D (W.rows.take k) (fun _ => 0) ∧ AllBox w r s wr ∧ Below w.heap.size w wr
def CntRel (w : World) (W : Wd) (r s : Value) (rest : PL) (n : Nat) (wr : World) : Prop :=
 ∃ (D : DataW Unit) (R : PL) (cnt : ByteArray → Nat), wr.ownsMap Tryz.prog 9 (plainElem Tryz.prog 3) (w.heap.size + 1) n D ∧ MapOk D R cnt ∧ risingB R = true ∧ allF R rest = allL W ∧
  (∀ key, cnt key + cntL rest key = cntL (W.ss.flatMap (·.wr)) key) ∧ (∀ key, cnt key ≤ n) ∧ AllBox w r s wr ∧ Below w.heap.size w wr
theorem box_grown {w wr w1 : World} {r s : Value} (h : AllBox w r s wr) (hg : wr.grownBy w1 (some (w.heap.size + 1))) : AllBox w r s w1 := h.same (hg.block _ h.lt (by simp))
theorem bel_grown {w wr w1 : World} (h : Below w.heap.size w wr) (hg : wr.grownBy w1 (some (w.heap.size + 1))) : Below w.heap.size w w1 := h.grown hg h.size (fun k hk => by injection hk with hk; omega)
def CountPost (w : World) (W : Wd) (e : Ending) (w' : World) : Prop :=
 ∃ (b n : Nat) (D : DataW Unit), e = .returned (.map (some b)) ∧ w'.ownsMap Tryz.prog 9 (plainElem Tryz.prog 3) b n D ∧ MapOk D (allL W) (cntL (W.ss.flatMap (·.wr))) ∧ n ≤ 1000 ∧ w.heap.size ≤ b ∧ Below w.heap.size w w'
set_option maxHeartbeats 4000000 in
theorem countWriters_any (r s : Value) (W : Wd) (w : World) (hW : Wld w w.heap.size r s W) (hr100 : W.rows.length ≤ 100) (hrise : risingB W.rows = true) (h8 : W.ss.length ≤ 8) (hw100 : ∀ i (hi : i < W.ss.length), W.ss[i].wr.length ≤ 100) :
  Calls Tryz.prog 97 #[.agg #[r, s]] w (CountPost w W) := by
 obtain ⟨hr, hs⟩ := hW
 obtain ⟨A, c, rfl, hc⟩ := hs.form
 obtain ⟨D, d, rfl, hd⟩ := hr.form
 have hby := hs.bytes
 have HS := jD hs
 have HR := jD hr
 have HN := jD hw100
 have HI := jD hrise
 clear hs hr hw100 hrise
 have hmm := @run_makeMap Tryz.prog
 go_enter Tryz.func97, Tryz.ntmps97
 go_wp2
 clear hmm
 go_loopw [14] (fun i wr => ∃ k : Nat, k ≤ W.rows.length ∧ i = .int .i64 k ∧ RowsRel w W (.slice D W.rows.length d) (.slice A W.ss.length c) k wr) (fun i _ => W.rows.length - (intOf i).toNat)
 case atStart =>
  refine ⟨0, by omega, rfl, .map [], ?_, mapOk_empty, (RowTo.whole w #[.slice D W.rows.length d, .slice A W.ss.length c] 39).alloc _, ?_⟩
  ·have := World.ownsMap_made (H := Unit) (w.alloc (.cells #[.slice D W.rows.length d, .slice A W.ss.length c] 39)) Tryz.prog 9 (plainElem Tryz.prog 3)
   simpa using this
  ·repeat' (first | exact Below.refl _ _ | assumption | with_reducible refine below_drewN ?_ _ | with_reducible refine Below.drew ?_ | with_reducible refine Below.setCell ?_ ?_ _ | with_reducible refine Below.alloc ?_ ?_ _ | (simp; done) | (simp; omega))
 case round =>
  obtain ⟨k, hk, rfl, M, hown, hmap, hbox, bel⟩ := hrel
  by_cases hlt : k < W.rows.length
  ·obtain ⟨b, off, rfl, hb, c0, c1⟩ := HR.out.pt hlt
   obtain ⟨z0, z1⟩ := HR.out.key hlt
   have d0 := (bel.cell (p := ⟨b, off + k * 2, none⟩) hb).trans c0
   have d1 := (bel.cell (p := ⟨b, off + k * 2 + 1, none⟩) hb).trans c1
   have hkey := klKey z0
   have HP := jD (mapOk_put (k := W.rows[k].1) (v := W.rows[k].2) (c := 0) hmap (hown.tidy strLaw) (rising_take HI.out k) trivial)
   have HT := jD (ins_take HI.out hlt)
   have HO := jD hown
   have HX := jD hbox
   have HB := jD bel
   clear hown hmap hbox bel c0 c1
   go_wp2_with (first
    | (at_mapUpdate; refine wpList_mapUpdate_own _ rfl _ _ _ 162 rfl 9 3 strLaw Tryz.underlying162 _ (w.heap.size + 1) k _ rfl (HO.out.alloc _) (by unfold maxLen; omega) _ _ _ rfl rfl hkey _ [] (plainElem_int Tryz.underlying3 (WalkArith.wf_i64 (by omega))) ?_; intro w1 hown1 hgrow1)
    | go_in)
   have HO1 := jD hown1
   have hg := (World.grownBy_alloc wr (.cells #[.string W.rows[k].1, .string W.rows[k].2] 60) (some (w.heap.size + 1))).trans hgrow1
   have HX1 := jD (box_grown HX.out hg)
   have HB1 := jD (bel_grown HB.out hg)
   clear hown1 hgrow1 hg
   go_roundw
   case rel =>
    refine ⟨k + 1, by omega, by go_num, _, HO1.out, ?_, HX1.out, HB1.out⟩
    rw [← HT.out]
    exact HP.out.cnt (fun key => by split <;> rfl)
   case measure => simp [intOf]; omega
  ·obtain rfl : k = W.rows.length := by omega
   have x1 := hbox.cell (j := 1) (by simp)
   simp only [gCZ, gCS] at x1
   rw [List.take_length] at hmap
   have HO := jD (hown.mono hr100)
   have HM := jD hmap
   have HX := jD hbox
   have HB := jD bel
   clear hown hmap hbox bel
   go_wp2
   go_loopw [25] (fun i wr => ∃ k : Nat, k ≤ W.ss.length ∧ i = .int .i64 k ∧ CntRel w W (.slice D W.rows.length d) (.slice A W.ss.length c) (restOf W.ss k) (100 + k * 100) wr) (fun i _ => W.ss.length - (intOf i).toNat)
   case atStart => exact ⟨0, by omega, rfl, M, W.rows, _, HO.out, HM.out, HI.out, rfl, fun key => by rw [Nat.zero_add]; rfl, fun key => Nat.zero_le _, HX.out, HB.out⟩
   case round =>
    clear HO HM HX HB x1
    obtain ⟨i, hi, rfl, M, R, cnt, hown, hmap, hrR, hall, hcnt, hcb, hbox, bel⟩ := hrel
    by_cases hlt : i < W.ss.length
    ·obtain ⟨b, off, v1, v2, v3, v4, rfl, hb, hses⟩ := HS.out.pt hlt
     have h100 := HN.out i hlt
     have hall' : allF R (W.ss[i].wr.drop 0 ++ restOf W.ss (i + 1)) = allL W := by rw [List.drop_zero, ← restOf_step hlt]; exact hall
     have hcnt' : ∀ key, cnt key + cntL (W.ss[i].wr.drop 0 ++ restOf W.ss (i + 1)) key = cntL (W.ss.flatMap (·.wr)) key := fun key => by rw [List.drop_zero, ← restOf_step hlt]; exact hcnt key
     generalize hsk : W.ss[i] = s at *
     obtain ⟨d0, d1, d2, d3, d4, l1, l2, l3, l4⟩ := hses.keep (w' := wr) hb (nL _) fun p hp => bel.cell hp
     obtain ⟨A1, c1, rfl, _⟩ := l1.form
     obtain ⟨A2, c2, rfl, _⟩ := l2.form
     obtain ⟨A3, c3, rfl, _⟩ := l3.form
     obtain ⟨A4, c4, rfl, _⟩ := l4.form
     have hb4 := l4.bytes
     have HL := jD hses.l4
     have HO := jD (hown.alloc (.cells #[.int .i64 s.st, .slice A1 s.set.length c1, .slice A2 s.prep.length c2, .slice A3 s.sav.length c3, .slice A4 s.wr.length c4] 115))
     have HM := jD hmap
     have HRR := jD hrR
     have HA := jD hall'
     have HC := jD hcnt'
     have HCB := jD hcb
     have HX := jD (RowTo.alloc hbox (.cells #[.int .i64 s.st, .slice A1 s.set.length c1, .slice A2 s.prep.length c2, .slice A3 s.sav.length c3, .slice A4 s.wr.length c4] 115))
     have HB := jD (bel.alloc bel.size (.cells #[.int .i64 s.st, .slice A1 s.set.length c1, .slice A2 s.prep.length c2, .slice A3 s.sav.length c3, .slice A4 s.wr.length c4] 115))
     clear hown hmap hrR hall hall' hcnt hcnt' hcb hbox bel hses hsk l1 l2 l3 l4
     go_wp2
     clear d0 d1 d2 d3 d4
     go_loopw [32] (fun j wr => ∃ k : Nat, k ≤ s.wr.length ∧ j = .int .i64 k ∧ CntRel w W (.slice D W.rows.length d) (.slice (some ⟨b, off, none⟩) W.ss.length c) (s.wr.drop k ++ restOf W.ss (i + 1)) (100 + i * 100 + k) wr) (fun j _ => s.wr.length - (intOf j).toNat)
     case atStart => exact ⟨0, by omega, rfl, M, R, cnt, HO.out, HM.out, HRR.out, HA.out, HC.out, HCB.out, HX.out, HB.out⟩
     case round =>
      clear HO HM HRR HA HC HCB HX HB
      obtain ⟨k, hk, rfl, M, R, cnt, hown, hmap, hrR, hall, hcnt, hcb, hbox, bel⟩ := hrel
      by_cases hlk : k < s.wr.length
      ·obtain ⟨b', off', rfl, hb', m0, m1⟩ := HL.out.pt hlk
       obtain ⟨z0, z1⟩ := HL.out.key hlk
       have d0 := (bel.cell (p := ⟨b', off' + k * 2, none⟩) hb').trans m0
       have d1 := (bel.cell (p := ⟨b', off' + k * 2 + 1, none⟩) hb').trans m1
       have hkey := klKey z0
       have hce := hcb s.wr[k].1
       have HD := jD (List.drop_eq_getElem_cons hlk)
       have HP := jD (fun cc => mapOk_put (k := s.wr[k].1) (v := ⟨#[]⟩) (c := cc) hmap (hown.tidy strLaw) hrR trivial)
       have HRR := jD (ins_rising (k := s.wr[k].1) (v := ⟨#[]⟩) hrR)
       have HPI := jD (plus_ins (k := s.wr[k].1) (v := ⟨#[]⟩) hrR)
       have HAT := jD (hmap.at_ s.wr[k].1)
       have HO := jD hown
       have HA := jD hall
       have HC := jD hcnt
       have HCB := jD hcb
       have HX := jD hbox
       have HB := jD bel
       clear hown hmap hrR hall hcnt hcb hbox bel m0 m1
       go_wp2_with (first
        | (at_lookup; refine wpList_lookup_own_int _ rfl _ _ 162 rfl 9 3 .i64 strLaw Tryz.underlying162 Tryz.underlying3 (zeroInt _) (w.heap.size + 1) (100 + i * 100 + k) _ rfl (HO.out.alloc _) _ _ rfl hkey ?_; intro q hat hwq; obtain rfl : q = (cnt s.wr[k].1 : Int) := (lit_inj (HAT.out.symm.trans hat)).symm; clear hat hwq)
        | (at_mapUpdate; refine wpList_mapUpdate_own _ rfl _ _ _ 162 rfl 9 3 strLaw Tryz.underlying162 _ (w.heap.size + 1) (100 + i * 100 + k) _ rfl (HO.out.alloc _) (by unfold maxLen; omega) _ _ _ rfl rfl hkey _ [] (plainElem_int Tryz.underlying3 (WalkArith.wf_i64 (by omega))) ?_; intro w1 hown1 hgrow1)
        | go_in)
       have HO1 := jD hown1
       have hg := (World.grownBy_alloc wr (.cells #[.string s.wr[k].1, .string s.wr[k].2] 60) (some (w.heap.size + 1))).trans hgrow1
       have HX1 := jD (box_grown HX.out hg)
       have HB1 := jD (bel_grown HB.out hg)
       clear hown1 hgrow1 hg
       go_roundw
       case rel =>
        refine ⟨k + 1, by omega, by go_num, _, insL R s.wr[k].1 ⟨#[]⟩, _, HO1.out, by have := HP.out (cnt s.wr[k].1 + 1); simpa using this, HRR.out, ?_, fun key => ?_, fun key => ?_, HX1.out, HB1.out⟩
        ·rw [← HA.out, HD.out, List.cons_append, allF_cons, HPI.out]
        ·rw [← HC.out key, HD.out, List.cons_append, cntL_cons]
         cases e : eqB s.wr[k].1 key
         ·simp
         ·rw [eqB_iff.1 e]; simp; omega
        ·have := HCB.out key
         split <;> omega
       case measure => simp [intOf]; omega
      ·rw [List.drop_eq_nil_of_le (by omega), List.nil_append] at hall hcnt
       have HO := jD (hown.mono (n' := 100 + (i + 1) * 100) (by omega))
       have HM := jD hmap
       have HRR := jD hrR
       have HA := jD hall
       have HC := jD hcnt
       have HCB := jD (fun key => Nat.le_trans (hcb key) (show 100 + i * 100 + k ≤ 100 + (i + 1) * 100 by omega))
       have HX := jD hbox
       have HB := jD bel
       clear hown hmap hrR hall hcnt hcb hbox bel
       go_wp2
       go_roundw
       case rel => exact ⟨i + 1, by omega, by go_num, M, R, cnt, HO.out, HM.out, HRR.out, HA.out, HC.out, HCB.out, HX.out, HB.out⟩
       case measure => simp [intOf]; omega
    ·rw [restOf_end (by omega)] at hall hcnt
     have HM := jD (hmap.cnt (cnt' := cntL (W.ss.flatMap (·.wr))) (fun key => by have h := hcnt key; rw [cntL_nil] at h; exact h))
     have HA := jD (show R = allL W from hall)
     have HO := jD hown
     have HB := jD bel
     clear hown hmap hrR hall hcnt hcb hbox bel
     go_wp2
     go_ret
     exact ⟨w.heap.size + 1, _, M, rfl, HO.out, by rw [← HA.out]; exact HM.out, by omega, by omega, HB.out⟩
end Go.Proofs.YtpbaobmegomfpabGreatDoor
