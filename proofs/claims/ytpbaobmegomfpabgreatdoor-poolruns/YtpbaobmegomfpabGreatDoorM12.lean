/-
  Texts of the proof, one behind the other: BEnd2.
-/
import Derived.Test.YtpbaobmegomfpabGreatDoorM11
import Derived.Deep.RegionWith
set_option linter.unusedVariables false
set_option linter.unusedSimpArgs false
set_option maxRecDepth 100000
open List renaming getElem_toArray → gTA, getElem_cons_zero → gCZ, getElem_cons_succ → gCS, setIfInBounds_toArray → sTA, set_cons_zero → sCZ, set_cons_succ → sCS
open Go.Lib renaming hid → jD
open Nat renaming le_refl → nL
namespace Go.Proofs.YtpbaobmegomfpabGreatDoor
open Go.RowKit
theorem plusF_step {rows l : PL} {k : Nat} (hk : k < l.length) : plusF rows (l.take (k + 1)) = plusL (plusF rows (l.take k)) l[k].1 l[k].2 := by
 unfold plusF
 rw [List.take_succ_eq_append_getElem hk, List.foldl_append]; rfl
theorem plusF_rising {rows : PL} (h : risingB rows = true) : ∀ l : PL, risingB (plusF rows l) = true := by
 intro l
 unfold plusF
 induction l generalizing rows with
 | nil => exact h
 | cons p l ih => rw [List.foldl_cons]; exact ih (by rw [plus_ins h]; exact ins_rising h)
theorem plusF_len (rows : PL) : ∀ l : PL, (plusF rows l).length ≤ rows.length + l.length := by
 intro l
 unfold plusF
 induction l generalizing rows with
 | nil => simp
 | cons p l ih =>
  rw [List.foldl_cons]
  have h1 := ih (plusL rows p.1 p.2)
  have h2 := plusL_len rows p.1 p.2
  simp only [List.length_cons]; omega
theorem plusF_sz {rows : PL} (h : Sz rows) : ∀ {l : PL}, Sz l → Sz (plusF rows l) := by
 intro l
 unfold plusF
 induction l generalizing rows with
 | nil => intro _; exact h
 | cons p l ih =>
  intro hl
  rw [List.foldl_cons]
  refine ih (fun q hq => ?_) (fun q hq => hl q (by simp [hq]))
  rcases plusL_mem hq with rfl | hq
  ·exact hl p (by simp)
  ·exact h q hq
def ComRel (w : World) (X S gR : Nat) (W : Wd) (l : PL) (k : Nat) (wr : World) : Prop :=
 ∃ g c, OwnL wr g c (plusF W.rows (l.take k)) ∧ (g = gR ∨ w.heap.size + 1 ≤ g) ∧ RowTo wr w.heap.size 46 3 [.int .i64 0, .string ⟨#[]⟩, .int .i64 0] ∧
  RowTo wr X 39 2 [slc g (plusF W.rows (l.take k)).length c, slc S W.ss.length W.ss.length] ∧ w.heap.size + 1 ≤ wr.heap.size ∧ wr.os = w.os ∧ wr.tape = w.tape ∧ wr.output = w.output ∧ ∀ b, b < w.heap.size → b ≠ gR → b ≠ X → wr.heap[b]? = w.heap[b]?
set_option maxHeartbeats 4000000 in
theorem end_commit (base X S gR cR : Nat) (G C : Nat → Nat → Nat) (W : Wd) (i : Nat) (w : World) (h : OwnD w X S gR cR G C W) (lo : LoD base X S gR G W.ss.length) (hz : SzW W) (hr : risingB W.rows = true) (hb : base ≤ w.heap.size) (hi : i < W.ss.length) (hst : W.ss[i].st = 1) :
  Calls Tryz.prog 66 #[.pointer (some ⟨X, 0, none⟩), .pointer (some ⟨S, i * 5, none⟩), .int .i64 2] w (DonePost w base X S gR G W.ss.length ⟨plusF W.rows W.ss[i].wr, W.ss.set i { W.ss[i] with st := 0, sav := [], wr := [] }⟩) := by
 have c0 := h.st i hi
 rw [hst] at c0
 have c4 : w.cell? ⟨S, i * 5 + 4, none⟩ = some (.slice (some ⟨G i 3, 0, none⟩) W.ss[i].wr.length (C i 3)) := h.cs i 3 hi (by omega)
 have hSw := h.blk.lt
 have hXw := h.box.lt
 have hRw := h.rows.row.lt
 have hGw := (h.ls i 3 hi (by omega)).row.lt
 have n1 := h.neXS
 have n2 := h.neRX
 have n3 := h.neRS
 have n4 := h.neGX i 3 hi (by omega)
 have n5 := h.neGR i 3 hi (by omega)
 have h100 : W.ss[i].wr.length ≤ 100 := (hz.li i 3 hi (by omega)).1
 have hr100 := hz.rows.1
 have HL := jD (show OwnL w (G i 3) (C i 3) W.ss[i].wr from h.ls i 3 hi (by omega))
 have HLz := jD (show Sz W.ss[i].wr from (hz.li i 3 hi (by omega)).sz)
 have H := jD h
 have HZ := jD hz
 have HR := jD hr
 clear h hst hr
 have HW := jD (rfl : W.ss[i].wr = W.ss[i].wr)
 generalize hl : W.ss[i].wr = l at *
 have HWR := jD hl
 clear hl HW
 go_enter Tryz.func66, Tryz.ntmps66
 go_wp2
 go_loopw [29] (fun j wr => ∃ k : Nat, k ≤ l.length ∧ j = .int .i64 k ∧ ComRel w X S gR W l k wr) (fun j _ => l.length - (intOf j).toNat)
 case atStart =>
  refine ⟨0, by omega, rfl, gR, cR, H.out.rows.below ((Below.refl w.heap.size w).alloc (nL _) _) hRw, .inl rfl, RowTo.whole w #[.int .i64 0, .string ⟨#[]⟩, .int .i64 0] 46, H.out.box.alloc _, by simp, rfl, rfl, rfl, fun b hb _ _ => Below.heap_alloc _ _ _ hb⟩
 case round =>
  obtain ⟨k, hk, rfl, g, c, hown, hloc, hres, hbox, hsz, ho1, ho2, ho3, hoth⟩ := hrel
  by_cases hlt : k < l.length
  ·have hG : wr.heap[G i 3]? = w.heap[G i 3]? := hoth _ hGw n5 n4
   have hlk := (HL.out.same hG).row
   have d0 := hlk.cell (j := k * 2) (by rw [flat_length]; omega)
   have d1 := hlk.cell (j := k * 2 + 1) (by rw [flat_length]; omega)
   have e0 := flat_fst l k hlt
   have e1 := flat_snd l k hlt
   rw [List.getElem?_eq_getElem (by rw [flat_length]; omega)] at e0 e1
   rw [Option.some.inj e0] at d0
   rw [Option.some.inj e1] at d1
   have x0 := hbox.cell (j := 0) (by simp)
   simp only [gCZ] at x0
   have xf := hbox.frozen 0
   have hxl := hbox.lt
   have hgl := hown.row.lt
   have hpl := plusF_len W.rows (l.take k)
   have htl : (l.take k).length = k := by rw [List.length_take]; omega
   rw [htl] at hpl
   have hrr := plusF_rising HR.out (l.take k)
   have hss : Sz (plusF W.rows (l.take k)) := plusF_sz HZ.out.rows.sz (fun p hp => HLz.out p (List.mem_of_mem_take hp))
   have HS := jD ((plusF_step (rows := W.rows) hlt).trans (plus_ins hrr))
   have HI := jD (fun (w9 : World) (h9 : OwnL w9 g c (plusF W.rows (l.take k))) => backInsert_any g c _ l[k].1 l[k].2 w9 h9 hrr (by omega) hss)
   have HO := jD hown
   have HX := jD hbox
   have HY := jD hres
   have HK := jD (And.intro ho1 (And.intro ho2 (And.intro ho3 hoth)))
   clear hG hlk e0 e1 hpl htl hrr hss hown hbox hres ho1 ho2 ho3 hoth
   unfold slc at x0
   go_wp2
   clear d0 d1
   have b0 : Below wr.heap.size wr (wr.alloc (.cells #[.string l[k].1, .string l[k].2] 60)) := (Below.refl _ _).alloc (nL _) _
   have p0 : (wr.alloc (.cells #[.string l[k].1, .string l[k].2] 60)).cell? ⟨wr.heap.size, 0, none⟩ = some (.string l[k].1) := by simp [go_sem]
   have p1 : (wr.alloc (.cells #[.string l[k].1, .string l[k].2] 60)).cell? ⟨wr.heap.size, 1, none⟩ = some (.string l[k].2) := by simp [go_sem]
   have y0 := (b0.cell (p := ⟨X, 0, none⟩) hxl).trans x0
   have O0 := jD (HO.out.below b0 hgl)
   have X0 := jD (HX.out.below b0 hxl)
   have R0 := jD (HY.out.below b0 HY.out.lt)
   have hz0 : (wr.alloc (.cells #[.string l[k].1, .string l[k].2] 60)).heap.size = wr.heap.size + 1 := by simp
   have B0 := jD b0
   clear b0 x0 xf
   generalize wr.alloc (.cells #[.string l[k].1, .string l[k].2] 60) = W0 at *
   have hw0 : wr.heap.size < W0.heap.size := by omega
   have HZ0 := jD hz0
   clear hz0
   go_region_with (first
    | (
     go_at_call 94
     refine (HI.out _ (by first | exact O0.out | exact O0.out.same rfl)).mono ?_
     rintro e wB ⟨g', c', rfl, ho', hl', hgr⟩
     have hgB : W0.grownBy wB (some g) := ⟨hgr.os, hgr.tape, hgr.output, hgr.size, hgr.block⟩
     have hl8 : g' = g ∨ W0.heap.size ≤ g' := hl'
     have hXg : X ≠ g := by rcases hloc with h | h <;> omega
     have X1 := X0.out.same (hgB.block X X0.out.lt (fun e => hXg (by injection e)))
     have q0 := X1.cell (j := 0) (by simp)
     have qf := X1.frozen 0
     simp only [gCZ] at q0
     unfold slc at q0))
   all_goals
    have HZ8 := jD (And.intro ho' (And.intro hl8 (And.intro hgB X1)))
    clear ho' hl8 hgB X1 hl' hgr q0 qf
    go_wp2
    go_roundw
    case rel =>
     obtain ⟨a1, a2, a3, a4⟩ := HZ8.out
     obtain ⟨k1, k2, k3, k4⟩ := HK.out
     have hsB := a3.size
     have hgX : X ≠ g' := by rcases a2 with h | h <;> omega
     have hwg : w.heap.size ≠ g := by rcases hloc with h | h <;> omega
     have hl9 : g' = gR ∨ w.heap.size + 1 ≤ g' := by
      rcases a2 with h | h
      ·rw [h]; exact hloc
      ·right; omega
     have hXR : X ≠ w.heap.size := by omega
     refine ⟨k + 1, by omega, by go_num, g', c', ?_, hl9, ?_, ?_, ?_, ?_, ?_, ?_, fun b hb h1 h2 => ?_⟩
     ·rw [HS.out]; exact ⟨a1.row.other hgX _, a1.len, a1.most⟩
     ·exact (R0.out.same (a3.block _ R0.out.lt (fun e => hwg (by injection e)))).other (p := ⟨X, 0, none⟩) hXR _
     ·rw [HS.out]; exact a4.put (by simp) _
     ·have : w.heap.size + 1 ≤ wB.heap.size := by omega
      simpa [World.setCell] using this
     ·exact (a3.os.trans B0.out.os).trans k1
     ·exact (a3.tape.trans B0.out.tape).trans k2
     ·exact (a3.output.trans B0.out.output).trans k3
     ·have hbg : b ≠ g := by rcases hloc with h | h <;> omega
      rw [Below.heap_setCell _ _ _ _ h2, a3.block b (by omega) (fun e => hbg (by injection e)), B0.out.block b (by omega)]
      exact k4 b hb h1 h2
    case measure => simp [intOf]; omega
  ·obtain rfl : k = l.length := by omega
   rw [List.take_length] at hown hbox
   have hSS : wr.heap[S]? = w.heap[S]? := hoth S hSw (Ne.symm n3) (Ne.symm n1)
   have hb9 := (H.out.blk.same hSS)
   have f0 := hb9.frozen (i * 5)
   have f3 := hb9.frozen (i * 5 + 3)
   have f4 := hb9.frozen (i * 5 + 4)
   obtain ⟨u0, d0⟩ := hb9.any (j := i * 5) (by omega)
   obtain ⟨u3, d3⟩ := hb9.any (j := i * 5 + 3) (by omega)
   obtain ⟨u4, d4⟩ := hb9.any (j := i * 5 + 4) (by omega)
   have HO := jD hown
   have HX := jD hbox
   have HY := jD hres
   have HK := jD (And.intro ho1 (And.intro ho2 (And.intro ho3 (And.intro hoth hSS))))
   have HB := jD hb9
   have hSr : S < wr.heap.size := by omega
   clear hown hbox hres ho1 ho2 ho3 hoth hSS hb9
   go_wp2_with fail
   have ch1 := ((((Chs.refl wr S).setS (j := i * 5) (.int .i64 0)).setS (j := i * 5 + 3) (.slice none 0 0)).setS (j := i * 5 + 4) (.slice none 0 0))
   have Y1 := ((HY.out.other (p := ⟨S, i * 5, none⟩) (by show S ≠ _; omega) (.int .i64 0)).other (p := ⟨S, i * 5 + 3, none⟩) (by show S ≠ _; omega) (.slice none 0 0)).other (p := ⟨S, i * 5 + 4, none⟩) (by show S ≠ _; omega) (.slice none 0 0)
   refine (done_any _).mono ?_
   rintro e w3 ⟨rfl, hy3⟩
   have ch3 := ch1.below hy3 ch1.size hSr
   have X3 := Y1.below hy3 Y1.lt
   have r0 := X3.cell (j := 0) (by simp)
   have r1 := X3.cell (j := 1) (by simp)
   have r2 := X3.cell (j := 2) (by simp)
   have s0 := X3.frozen 0
   have s1 := X3.frozen 1
   have s2 := X3.frozen 2
   simp only [gCZ, gCS] at r0 r1 r2
   have HC3 := jD ch3
   clear ch1 ch3 Y1 X3 hy3
   unfold ansV
   go_wp2
   refine bodyPost_ret (v := .agg #[.int .i64 1, .string ⟨#[]⟩, .int .i64 0]) (by simp [results, Tryz.results66, go_sem, r0, r1, r2]) rfl ?_
   obtain ⟨k1, k2, k3, k4, k5⟩ := HK.out
   have c3 := HC3.out
   obtain ⟨wF, hF⟩ : ∃ wF, wF = (((w3.setCell ⟨w.heap.size, 0, none⟩ (.int .i64 1)).setCell ⟨w.heap.size, 1, none⟩ (.string ⟨#[]⟩)).setCell ⟨w.heap.size, 2, none⟩ (.int .i64 0)) := ⟨_, rfl⟩
   rw [← hF]
   have blk : ∀ b, b ≠ w.heap.size → wF.heap[b]? = w3.heap[b]? := fun b hb => by
    rw [hF, Below.heap_setCell _ _ _ _ hb, Below.heap_setCell _ _ _ _ hb, Below.heap_setCell _ _ _ _ hb]
   have hszF : wr.heap.size ≤ wF.heap.size := by rw [hF]; have := c3.size; simpa [World.setCell] using this
   have old : ∀ b, b < w.heap.size → b ≠ gR → b ≠ X → b ≠ S → wF.heap[b]? = w.heap[b]? := fun b hb h1 h2 h3 => by
    rw [blk b (by omega), c3.other b (by omega) h3]; exact k4 b hb h1 h2
   have hfs : wF.heap[S]? = (((wr.setCell ⟨S, i * 5, none⟩ (.int .i64 0)).setCell ⟨S, i * 5 + 3, none⟩ (.slice none 0 0)).setCell ⟨S, i * 5 + 4, none⟩ (.slice none 0 0)).heap[S]? := (blk S (by omega)).trans c3.here
   have hXF : wF.heap[X]? = wr.heap[X]? := (blk X (by omega)).trans (c3.other X (by omega) n1)
   have hgS : g ≠ S := by rcases hloc with h | h <;> omega
   have hgF : wF.heap[g]? = wr.heap[g]? := (blk g (by rcases hloc with h | h <;> omega)).trans (c3.other g HO.out.row.lt hgS)
   have cc : ∀ j, wF.cell? ⟨S, j, none⟩ = (((wr.setCell ⟨S, i * 5, none⟩ (.int .i64 0)).setCell ⟨S, i * 5 + 3, none⟩ (.slice none 0 0)).setCell ⟨S, i * 5 + 4, none⟩ (.slice none 0 0)).cell? ⟨S, j, none⟩ := fun j => World.cell?_of_block hfs
   have cw : ∀ j, wr.cell? ⟨S, j, none⟩ = w.cell? ⟨S, j, none⟩ := fun j => World.cell?_of_block k5
   have hh := H.out
   have hzz := HZ.out
   have hrow := (((HB.out.hit (j := i * 5) (.int .i64 0)).hit (j := i * 5 + 3) (.slice none 0 0)).hit (j := i * 5 + 4) (.slice none 0 0)).same hfs
   have hl5 : Sz l := HLz.out
   have hpl := plusF_len W.rows l
   have lk : ∀ j, j < 4 → j ≠ 3 → j ≠ 2 → Lst wF wF.heap.size (slc (G i j) (W.ss[i].li j).length (C i j)) (W.ss[i].li j) := fun j hj _ _ =>
    ((hh.ls i j hi hj).same (old _ (hh.ls i j hi hj).row.lt (hh.neGR i j hi hj) (hh.neGX i j hi hj) (hh.neGS i j hi hj))).lst (by have := (hzz.li i j hi hj).1; omega) (hzz.li i j hi hj).sz
   refine ⟨rfl, ?_, ⟨?_, ?_, ?_, by omega, fun b hbb => old b (by omega) (by have := lo.r; omega) (by have := lo.x; omega) (by have := lo.s; omega)⟩, fun b hb h1 h2 h3 _ => old b hb h3 h1 h2⟩
   ·refine hh.left lo ?_ ?_ hzz hi (by omega) (HX.out.same hXF) hrow (((HO.out.same hgF).lst (by omega) (plusF_sz hzz.rows.sz hl5))) (fun k j hk hj => ?_) (fun k j hk hne hj => old _ (hh.ls k j hk hj).row.lt (hh.neGR k j hk hj) (hh.neGX k j hk hj) (hh.neGS k j hk hj))
     (v1 := slc (G i 0) (W.ss[i].li 0).length (C i 0)) (v2 := slc (G i 1) (W.ss[i].li 1).length (C i 1)) (v3 := .slice none 0 0) (v4 := .slice none 0 0) ⟨?_, ?_, ?_, ?_, ?_, lk 0 (by omega) (by omega) (by omega), lk 1 (by omega) (by omega) (by omega), Lst.none_ _ _, Lst.none_ _ _⟩
    ·exact LoV.at (by have := lo.r; rcases hloc with h | h <;> omega)
    ·exact ⟨lo.v hi (by omega), lo.v hi (by omega), LoV.non _ _ _, LoV.non _ _ _⟩
    ·rw [cc, cell_off _ (by omega), cell_off _ (by omega), cell_off _ (by omega), cw]
    ·rw [cc, cell_off _ (by omega), cell_off _ (by omega)]; exact cell_put HB.out (by omega) _
    ·rw [cc, cell_off _ (by omega), cell_off _ (by omega), cell_off _ (by omega), cw]; exact hh.cs i 0 hi (by omega)
    ·rw [cc, cell_off _ (by omega), cell_off _ (by omega), cell_off _ (by omega), cw]; exact hh.cs i 1 hi (by omega)
    ·rw [cc, cell_off _ (by omega)]; exact cell_put (HB.out.hit _) (by omega) _
    ·rw [cc]; exact cell_put ((HB.out.hit _).hit _) (by omega) _
   ·rw [hF]; exact c3.os.trans k1
   ·rw [hF]; exact c3.tape.trans k2
   ·rw [hF]; exact c3.output.trans k3
end Go.Proofs.YtpbaobmegomfpabGreatDoor
