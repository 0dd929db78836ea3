/-
  Texts of the proof, one behind the other: BEnd2, BExe, BExe2, BExe3, BExe4, Say1, Say1v, Say4, Say5, Say6, Stm, Say12, BExec, BExec2, BFit, Say7, Say8.
-/
import Derived.Test.YtpbaobmegomfpabDoorM2
import Derived.Deep.RegionWith
import Derived.Test.YtpbaobmegomfpabDoorRows
import Derived.Test.YtpbaobmegomfpabDoorM1
import Derived.WalkKit
import Derived.WalkSpells
import Derived.WalkLawsBesides
import Derived.Deep.QuietTactic
import Derived.BigQuiet
import Derived.Lib.Hide
import Derived.Lib.Bytealg
import Derived.IntWalk
import Derived.Deep.RegionHeld3
import Derived.Maps.RangeWalk
/-
  Walks of back.end: a Commit.
-/
namespace Go.Proofs.YtpbaobmegomfpabDoor
open Go.RowKit
set_option linter.unusedVariables false
set_option linter.unusedSimpArgs false
set_option maxRecDepth 100000

theorem plusF_step {rows l : PL} {k : Nat} (hk : k < l.length) : plusF rows (l.take (k + 1)) = plusL (plusF rows (l.take k)) l[k].1 l[k].2 := by
  unfold plusF
  rw [List.take_succ_eq_append_getElem hk, List.foldl_append]; rfl
theorem plusF_rising {rows : PL} (h : risingB rows = true) : ∀ l : PL, risingB (plusF rows l) = true := by
  intro l
  unfold plusF
  induction l generalizing rows with
  | nil => exact h
  | cons p l ih => rw [List.foldl_cons]; exact ih (by rw [plus_ins h]; exact ins_rising h)
theorem plusF_len (rows : PL) : ∀ l : PL, (plusF rows l).length ≤ rows.length + l.length := by
  intro l
  unfold plusF
  induction l generalizing rows with
  | nil => simp
  | cons p l ih =>
    rw [List.foldl_cons]
    have h1 := ih (plusL rows p.1 p.2)
    have h2 := plusL_len rows p.1 p.2
    simp only [List.length_cons]; omega
theorem plusF_sz {rows : PL} (h : Sz rows) : ∀ {l : PL}, Sz l → Sz (plusF rows l) := by
  intro l
  unfold plusF
  induction l generalizing rows with
  | nil => intro _; exact h
  | cons p l ih =>
    intro hl
    rw [List.foldl_cons]
    refine ih (fun q hq => ?_) (fun q hq => hl q (by simp [hq]))
    rcases plusL_mem hq with rfl | hq
    · exact hl p (by simp)
    · exact h q hq
def ComRel (w : World) (X S gR : Nat) (W : Wd) (l : PL) (k : Nat) (wr : World) : Prop :=
  ∃ g c, OwnL wr g c (plusF W.rows (l.take k)) ∧ (g = gR ∨ w.heap.size + 1 ≤ g) ∧ RowTo wr w.heap.size 30 3 [.int .i64 0, .string ⟨#[]⟩, .int .i64 0] ∧
    RowTo wr X 25 2 [slc g (plusF W.rows (l.take k)).length c, slc S W.ss.length W.ss.length] ∧ w.heap.size + 1 ≤ wr.heap.size ∧ wr.os = w.os ∧ wr.tape = w.tape ∧ wr.output = w.output ∧ ∀ b, b < w.heap.size → b ≠ gR → b ≠ X → wr.heap[b]? = w.heap[b]?

set_option maxHeartbeats 4000000 in
theorem end_commit (base X S gR cR : Nat) (G C : Nat → Nat → Nat) (W : Wd) (i : Nat) (w : World) (h : OwnD w X S gR cR G C W) (lo : LoD base X S gR G W.ss.length) (hz : SzW W) (hr : risingB W.rows = true) (hb : base ≤ w.heap.size) (hi : i < W.ss.length) (hst : W.ss[i].st = 1) :
    Calls Tryd.prog 40 #[.pointer (some ⟨X, 0, none⟩), .pointer (some ⟨S, i * 5, none⟩), .int .i64 2] w (DonePost w base X S gR G W.ss.length ⟨plusF W.rows W.ss[i].wr, W.ss.set i { W.ss[i] with st := 0, sav := [], wr := [] }⟩) := by
  have c0 := h.st i hi
  rw [hst] at c0
  have c4 : w.cell? ⟨S, i * 5 + 4, none⟩ = some (.slice (some ⟨G i 3, 0, none⟩) W.ss[i].wr.length (C i 3)) := h.cs i 3 hi (by omega)
  have hSw := h.blk.lt
  have hXw := h.box.lt
  have hRw := h.rows.row.lt
  have hGw := (h.ls i 3 hi (by omega)).row.lt
  have n1 := h.neXS
  have n2 := h.neRX
  have n3 := h.neRS
  have n4 := h.neGX i 3 hi (by omega)
  have n5 := h.neGR i 3 hi (by omega)
  have h100 : W.ss[i].wr.length ≤ 100 := (hz.li i 3 hi (by omega)).1
  have hr100 := hz.rows.1
  have HL := Lib.hid (show OwnL w (G i 3) (C i 3) W.ss[i].wr from h.ls i 3 hi (by omega))
  have HLz := Lib.hid (show Sz W.ss[i].wr from (hz.li i 3 hi (by omega)).sz)
  have H := Lib.hid h
  have HZ := Lib.hid hz
  have HR := Lib.hid hr
  clear h hst hr
  have HW := Lib.hid (rfl : W.ss[i].wr = W.ss[i].wr)
  generalize hl : W.ss[i].wr = l at *
  have HWR := Lib.hid hl
  clear hl HW
  go_enter Tryd.func40, Tryd.ntmps40
  go_wp2
  go_loopw [29] (fun j wr => ∃ k : Nat, k ≤ l.length ∧ j = .int .i64 k ∧ ComRel w X S gR W l k wr) (fun j _ => l.length - (intOf j).toNat)
  case atStart =>
    refine ⟨0, by omega, rfl, gR, cR, H.out.rows.below ((Below.refl w.heap.size w).alloc (Nat.le_refl _) _) hRw, .inl rfl, RowTo.whole w #[.int .i64 0, .string ⟨#[]⟩, .int .i64 0] 30, H.out.box.alloc _, by simp, rfl, rfl, rfl, fun b hb _ _ => Below.heap_alloc _ _ _ hb⟩
  case round =>
    obtain ⟨k, hk, rfl, g, c, hown, hloc, hres, hbox, hsz, ho1, ho2, ho3, hoth⟩ := hrel
    by_cases hlt : k < l.length
    · have hG : wr.heap[G i 3]? = w.heap[G i 3]? := hoth _ hGw n5 n4
      have hlk := (HL.out.same hG).row
      have d0 := hlk.cell (j := k * 2) (by rw [flat_length]; omega)
      have d1 := hlk.cell (j := k * 2 + 1) (by rw [flat_length]; omega)
      have e0 := flat_fst l k hlt
      have e1 := flat_snd l k hlt
      rw [List.getElem?_eq_getElem (by rw [flat_length]; omega)] at e0 e1
      rw [Option.some.inj e0] at d0
      rw [Option.some.inj e1] at d1
      have x0 := hbox.cell (j := 0) (by simp)
      simp only [List.getElem_cons_zero] at x0
      have xf := hbox.frozen 0
      have hxl := hbox.lt
      have hgl := hown.row.lt
      have hpl := plusF_len W.rows (l.take k)
      have htl : (l.take k).length = k := by rw [List.length_take]; omega
      rw [htl] at hpl
      have hrr := plusF_rising HR.out (l.take k)
      have hss : Sz (plusF W.rows (l.take k)) := plusF_sz HZ.out.rows.sz (fun p hp => HLz.out p (List.mem_of_mem_take hp))
      have HS := Lib.hid ((plusF_step (rows := W.rows) hlt).trans (plus_ins hrr))
      have HI := Lib.hid (fun (w9 : World) (h9 : OwnL w9 g c (plusF W.rows (l.take k))) => backInsert_any g c _ l[k].1 l[k].2 w9 h9 hrr (by omega) hss)
      have HO := Lib.hid hown
      have HX := Lib.hid hbox
      have HY := Lib.hid hres
      have HK := Lib.hid (And.intro ho1 (And.intro ho2 (And.intro ho3 hoth)))
      clear hG hlk e0 e1 hpl htl hrr hss hown hbox hres ho1 ho2 ho3 hoth
      unfold slc at x0
      go_wp2
      clear d0 d1
      have b0 : Below wr.heap.size wr (wr.alloc (.cells #[.string l[k].1, .string l[k].2] 50)) := (Below.refl _ _).alloc (Nat.le_refl _) _
      have p0 : (wr.alloc (.cells #[.string l[k].1, .string l[k].2] 50)).cell? ⟨wr.heap.size, 0, none⟩ = some (.string l[k].1) := by simp [go_sem]
      have p1 : (wr.alloc (.cells #[.string l[k].1, .string l[k].2] 50)).cell? ⟨wr.heap.size, 1, none⟩ = some (.string l[k].2) := by simp [go_sem]
      have y0 := (b0.cell (p := ⟨X, 0, none⟩) hxl).trans x0
      have O0 := Lib.hid (HO.out.below b0 hgl)
      have X0 := Lib.hid (HX.out.below b0 hxl)
      have R0 := Lib.hid (HY.out.below b0 HY.out.lt)
      have hz0 : (wr.alloc (.cells #[.string l[k].1, .string l[k].2] 50)).heap.size = wr.heap.size + 1 := by simp
      have B0 := Lib.hid b0
      clear b0 x0 xf
      generalize wr.alloc (.cells #[.string l[k].1, .string l[k].2] 50) = W0 at *
      have hw0 : wr.heap.size < W0.heap.size := by omega
      have HZ0 := Lib.hid hz0
      clear hz0
      go_region_with (first
        | (
          go_at_call 61
          refine (HI.out _ (by first | exact O0.out | exact O0.out.same rfl)).mono ?_
          rintro e wB ⟨g', c', rfl, ho', hl', hgr⟩
          have hgB : W0.grownBy wB (some g) := ⟨hgr.os, hgr.tape, hgr.output, hgr.size, hgr.block⟩
          have hl8 : g' = g ∨ W0.heap.size ≤ g' := hl'
          have hXg : X ≠ g := by rcases hloc with h | h <;> omega
          have X1 := X0.out.same (hgB.block X X0.out.lt (fun e => hXg (by injection e)))
          have q0 := X1.cell (j := 0) (by simp)
          have qf := X1.frozen 0
          simp only [List.getElem_cons_zero] at q0
          unfold slc at q0))
      all_goals
        have HZ8 := Lib.hid (And.intro ho' (And.intro hl8 (And.intro hgB X1)))
        clear ho' hl8 hgB X1 hl' hgr q0 qf
        go_wp2
        go_roundw
        case rel =>
          obtain ⟨a1, a2, a3, a4⟩ := HZ8.out
          obtain ⟨k1, k2, k3, k4⟩ := HK.out
          have hsB := a3.size
          have hgX : X ≠ g' := by rcases a2 with h | h <;> omega
          have hwg : w.heap.size ≠ g := by rcases hloc with h | h <;> omega
          have hl9 : g' = gR ∨ w.heap.size + 1 ≤ g' := by
            rcases a2 with h | h
            · rw [h]; exact hloc
            · right; omega
          have hXR : X ≠ w.heap.size := by omega
          refine ⟨k + 1, by omega, by go_num, g', c', ?_, hl9, ?_, ?_, ?_, ?_, ?_, ?_, fun b hb h1 h2 => ?_⟩
          · rw [HS.out]; exact ⟨a1.row.other hgX _, a1.len, a1.most⟩
          · exact (R0.out.same (a3.block _ R0.out.lt (fun e => hwg (by injection e)))).other (p := ⟨X, 0, none⟩) hXR _
          · rw [HS.out]; exact a4.put (by simp) _
          · have : w.heap.size + 1 ≤ wB.heap.size := by omega
            simpa [World.setCell] using this
          · exact (a3.os.trans B0.out.os).trans k1
          · exact (a3.tape.trans B0.out.tape).trans k2
          · exact (a3.output.trans B0.out.output).trans k3
          · have hbg : b ≠ g := by rcases hloc with h | h <;> omega
            rw [Below.heap_setCell _ _ _ _ h2, a3.block b (by omega) (fun e => hbg (by injection e)), B0.out.block b (by omega)]
            exact k4 b hb h1 h2
        case measure => simp [intOf]; omega
    · obtain rfl : k = l.length := by omega
      rw [List.take_length] at hown hbox
      have hSS : wr.heap[S]? = w.heap[S]? := hoth S hSw (Ne.symm n3) (Ne.symm n1)
      have hb9 := (H.out.blk.same hSS)
      have f0 := hb9.frozen (i * 5)
      have f3 := hb9.frozen (i * 5 + 3)
      have f4 := hb9.frozen (i * 5 + 4)
      obtain ⟨u0, d0⟩ := hb9.any (j := i * 5) (by omega)
      obtain ⟨u3, d3⟩ := hb9.any (j := i * 5 + 3) (by omega)
      obtain ⟨u4, d4⟩ := hb9.any (j := i * 5 + 4) (by omega)
      have HO := Lib.hid hown
      have HX := Lib.hid hbox
      have HY := Lib.hid hres
      have HK := Lib.hid (And.intro ho1 (And.intro ho2 (And.intro ho3 (And.intro hoth hSS))))
      have HB := Lib.hid hb9
      have hSr : S < wr.heap.size := by omega
      clear hown hbox hres ho1 ho2 ho3 hoth hSS hb9
      go_wp2_with fail
      have ch1 := ((((Chs.refl wr S).setS (j := i * 5) (.int .i64 0)).setS (j := i * 5 + 3) (.slice none 0 0)).setS (j := i * 5 + 4) (.slice none 0 0))
      have Y1 := ((HY.out.other (p := ⟨S, i * 5, none⟩) (by show S ≠ _; omega) (.int .i64 0)).other (p := ⟨S, i * 5 + 3, none⟩) (by show S ≠ _; omega) (.slice none 0 0)).other (p := ⟨S, i * 5 + 4, none⟩) (by show S ≠ _; omega) (.slice none 0 0)
      refine (done_any _).mono ?_
      rintro e w3 ⟨rfl, hy3⟩
      have ch3 := ch1.below hy3 ch1.size hSr
      have X3 := Y1.below hy3 Y1.lt
      have r0 := X3.cell (j := 0) (by simp)
      have r1 := X3.cell (j := 1) (by simp)
      have r2 := X3.cell (j := 2) (by simp)
      have s0 := X3.frozen 0
      have s1 := X3.frozen 1
      have s2 := X3.frozen 2
      simp only [List.getElem_cons_zero, List.getElem_cons_succ] at r0 r1 r2
      have HC3 := Lib.hid ch3
      clear ch1 ch3 Y1 X3 hy3
      unfold ansV
      go_wp2
      refine bodyPost_ret (v := .agg #[.int .i64 1, .string ⟨#[]⟩, .int .i64 0]) (by simp [results, Tryd.results40, go_sem, r0, r1, r2]) rfl ?_
      obtain ⟨k1, k2, k3, k4, k5⟩ := HK.out
      have c3 := HC3.out
      obtain ⟨wF, hF⟩ : ∃ wF, wF = (((w3.setCell ⟨w.heap.size, 0, none⟩ (.int .i64 1)).setCell ⟨w.heap.size, 1, none⟩ (.string ⟨#[]⟩)).setCell ⟨w.heap.size, 2, none⟩ (.int .i64 0)) := ⟨_, rfl⟩
      rw [← hF]
      have blk : ∀ b, b ≠ w.heap.size → wF.heap[b]? = w3.heap[b]? := fun b hb => by
        rw [hF, Below.heap_setCell _ _ _ _ hb, Below.heap_setCell _ _ _ _ hb, Below.heap_setCell _ _ _ _ hb]
      have hszF : wr.heap.size ≤ wF.heap.size := by rw [hF]; have := c3.size; simpa [World.setCell] using this
      have old : ∀ b, b < w.heap.size → b ≠ gR → b ≠ X → b ≠ S → wF.heap[b]? = w.heap[b]? := fun b hb h1 h2 h3 => by
        rw [blk b (by omega), c3.other b (by omega) h3]; exact k4 b hb h1 h2
      have hfs : wF.heap[S]? = (((wr.setCell ⟨S, i * 5, none⟩ (.int .i64 0)).setCell ⟨S, i * 5 + 3, none⟩ (.slice none 0 0)).setCell ⟨S, i * 5 + 4, none⟩ (.slice none 0 0)).heap[S]? := (blk S (by omega)).trans c3.here
      have hXF : wF.heap[X]? = wr.heap[X]? := (blk X (by omega)).trans (c3.other X (by omega) n1)
      have hgS : g ≠ S := by rcases hloc with h | h <;> omega
      have hgF : wF.heap[g]? = wr.heap[g]? := (blk g (by rcases hloc with h | h <;> omega)).trans (c3.other g HO.out.row.lt hgS)
      have cc : ∀ j, wF.cell? ⟨S, j, none⟩ = (((wr.setCell ⟨S, i * 5, none⟩ (.int .i64 0)).setCell ⟨S, i * 5 + 3, none⟩ (.slice none 0 0)).setCell ⟨S, i * 5 + 4, none⟩ (.slice none 0 0)).cell? ⟨S, j, none⟩ := fun j => World.cell?_of_block hfs
      have cw : ∀ j, wr.cell? ⟨S, j, none⟩ = w.cell? ⟨S, j, none⟩ := fun j => World.cell?_of_block k5
      have hh := H.out
      have hzz := HZ.out
      have hrow := (((HB.out.hit (j := i * 5) (.int .i64 0)).hit (j := i * 5 + 3) (.slice none 0 0)).hit (j := i * 5 + 4) (.slice none 0 0)).same hfs
      have hl5 : Sz l := HLz.out
      have hpl := plusF_len W.rows l
      have lk : ∀ j, j < 4 → j ≠ 3 → j ≠ 2 → Lst wF wF.heap.size (slc (G i j) (W.ss[i].li j).length (C i j)) (W.ss[i].li j) := fun j hj _ _ =>
        ((hh.ls i j hi hj).same (old _ (hh.ls i j hi hj).row.lt (hh.neGR i j hi hj) (hh.neGX i j hi hj) (hh.neGS i j hi hj))).lst (by have := (hzz.li i j hi hj).1; omega) (hzz.li i j hi hj).sz
      refine ⟨rfl, ?_, ⟨?_, ?_, ?_, by omega, fun b hbb => old b (by omega) (by have := lo.r; omega) (by have := lo.x; omega) (by have := lo.s; omega)⟩, fun b hb h1 h2 h3 _ => old b hb h3 h1 h2⟩
      · refine hh.left lo ?_ ?_ hzz hi (by omega) (HX.out.same hXF) hrow (((HO.out.same hgF).lst (by omega) (plusF_sz hzz.rows.sz hl5))) (fun k j hk hj => ?_) (fun k j hk hne hj => old _ (hh.ls k j hk hj).row.lt (hh.neGR k j hk hj) (hh.neGX k j hk hj) (hh.neGS k j hk hj))
          (v1 := slc (G i 0) (W.ss[i].li 0).length (C i 0)) (v2 := slc (G i 1) (W.ss[i].li 1).length (C i 1)) (v3 := .slice none 0 0) (v4 := .slice none 0 0) ⟨?_, ?_, ?_, ?_, ?_, lk 0 (by omega) (by omega) (by omega), lk 1 (by omega) (by omega) (by omega), Lst.none_ _ _, Lst.none_ _ _⟩
        · exact LoV.at (by have := lo.r; rcases hloc with h | h <;> omega)
        · exact ⟨lo.v hi (by omega), lo.v hi (by omega), LoV.non _ _ _, LoV.non _ _ _⟩
        · rw [cc, cell_off _ (by omega), cell_off _ (by omega), cell_off _ (by omega), cw]
        · rw [cc, cell_off _ (by omega), cell_off _ (by omega)]; exact cell_put HB.out (by omega) _
        · rw [cc, cell_off _ (by omega), cell_off _ (by omega), cell_off _ (by omega), cw]; exact hh.cs i 0 hi (by omega)
        · rw [cc, cell_off _ (by omega), cell_off _ (by omega), cell_off _ (by omega), cw]; exact hh.cs i 1 hi (by omega)
        · rw [cc, cell_off _ (by omega)]; exact cell_put (HB.out.hit _) (by omega) _
        · rw [cc]; exact cell_put ((HB.out.hit _).hit _) (by omega) _
      · rw [hF]; exact c3.os.trans k1
      · rw [hF]; exact c3.tape.trans k2
      · rw [hF]; exact c3.output.trans k3
end Go.Proofs.YtpbaobmegomfpabDoor

/-
  Walks of back.execute: the kinds that only call.
-/
namespace Go.Proofs.YtpbaobmegomfpabDoor
open Go.RowKit
set_option linter.unusedVariables false
set_option linter.unusedSimpArgs false
set_option maxRecDepth 100000

/-- begin, either way -/
theorem begin_any (base X S gR cR : Nat) (G C : Nat → Nat → Nat) (W : Wd) (i : Nat) (w : World) (h : OwnD w X S gR cR G C W) (lo : LoD base X S gR G W.ss.length) (hz : SzW W) (hb : base ≤ w.heap.size) (hi : i < W.ss.length) (hst : W.ss[i].st ≠ 2) (key val : ByteArray) :
    Calls Tryd.prog 39 #[.pointer (some ⟨S, i * 5, none⟩)] w (ExPost w base X S gR G W.ss.length (did1 W i 1 key val)) := by
  have hd : did1 W i 1 key val = (if W.ss[i].st = 0 then (W.put i { W.ss[i] with st := 1, sav := W.ss[i].set }, ok') else (W, no' tBegun)) := by
    unfold did1
    simp only [getD_at hi]
    rw [if_neg (fun hh => hst hh.1)]
    simp
  rw [hd]
  by_cases h0 : W.ss[i].st = 0
  · rw [if_pos h0]
    exact (begin_ok base X S gR cR G C W i w h lo hz hb hi h0).mono fun e w' hh => ExPost.done hh
  · rw [if_neg h0]
    exact (begin_no w _ _ (h.st i hi) h0).mono fun e w' hh => ExPost.same h lo hz hb hh.1 hh.2
theorem reset_any (base X S gR cR : Nat) (G C : Nat → Nat → Nat) (W : Wd) (i : Nat) (w : World) (h : OwnD w X S gR cR G C W) (lo : LoD base X S gR G W.ss.length) (hz : SzW W) (hb : base ≤ w.heap.size) (hi : i < W.ss.length) (hst : W.ss[i].st ≠ 2) (key val : ByteArray) :
    Calls Tryd.prog 41 #[.pointer (some ⟨S, i * 5, none⟩)] w (ExPost w base X S gR G W.ss.length (did1 W i 4 key val)) := by
  have hd : did1 W i 4 key val = (if W.ss[i].st = 0 then (W.put i { W.ss[i] with set := [], prep := [] }, ok') else (W, no' tNotIn)) := by
    unfold did1
    simp only [getD_at hi]
    rw [if_neg (fun hh => hst hh.1)]
    simp
  rw [hd]
  by_cases h0 : W.ss[i].st = 0
  · rw [if_pos h0]
    exact (reset_ok base X S gR cR G C W i w h lo hz hb hi h0).mono fun e w' hh => ExPost.done hh
  · rw [if_neg h0]
    exact (reset_no w _ _ (h.st i hi) h0).mono fun e w' hh => ExPost.same h lo hz hb hh.1 hh.2
theorem end_any (base X S gR cR : Nat) (G C : Nat → Nat → Nat) (W : Wd) (i : Nat) (w : World) (h : OwnD w X S gR cR G C W) (lo : LoD base X S gR G W.ss.length) (hz : SzW W) (hr : risingB W.rows = true) (hb : base ≤ w.heap.size) (hi : i < W.ss.length) (k : Int) (hk : k = 2 ∨ k = 3) (key val : ByteArray) :
    Calls Tryd.prog 40 #[.pointer (some ⟨X, 0, none⟩), .pointer (some ⟨S, i * 5, none⟩), .int .i64 k] w (ExPost w base X S gR G W.ss.length (did1 W i k key val)) := by
  have hd : did1 W i k key val = (if W.ss[i].st = 0 then (W, no' tNoTx)
     else if k = 2 ∧ W.ss[i].st = 1 then (⟨plusF W.rows W.ss[i].wr, W.ss.set i { W.ss[i] with st := 0, sav := [], wr := [] }⟩, ok')
     else (W.put i { W.ss[i] with st := 0, set := W.ss[i].sav, sav := [], wr := [] }, ok')) := by
    unfold did1
    simp only [getD_at hi]
    rw [if_neg (fun hh => hh.2 hk), if_neg (by omega), if_pos hk]
  rw [hd]
  by_cases h0 : W.ss[i].st = 0
  · rw [if_pos h0]
    have c0 := h.st i hi
    rw [h0] at c0
    exact (end_no w _ _ k c0).mono fun e w' hh => ExPost.same h lo hz hb hh.1 hh.2
  rw [if_neg h0]
  by_cases h1 : k = 2 ∧ W.ss[i].st = 1
  · rw [if_pos h1]
    rw [h1.1]
    exact (end_commit base X S gR cR G C W i w h lo hz hr hb hi h1.2).mono fun e w' hh => ExPost.done hh
  · rw [if_neg h1]
    exact (end_back base X S gR cR G C W i k w h lo hz hb hi h0 h1).mono fun e w' hh => ExPost.done hh
/-- a list of a session -/
theorem keep_any (base X S gR cR : Nat) (G C : Nat → Nat → Nat) (W : Wd) (i j : Nat) (k : Int) (w : World) (h : OwnD w X S gR cR G C W) (lo : LoD base X S gR G W.ss.length) (hz : SzW W) (hb : base ≤ w.heap.size) (hi : i < W.ss.length) (hj : j < 4) (key val : ByteArray) (hkz : key.size ≤ 8) (hvz : val.size ≤ 60) (hr : risingB (W.ss[i].li j) = true) (s' : Sess)
    (hs : s'.st = W.ss[i].st) (hl : ∀ k, k < 4 → s'.li k = if k = j then insL (W.ss[i].li j) key val else W.ss[i].li k) :
    Calls Tryd.prog 44 #[.pointer (some ⟨S, i * 5 + (j + 1), none⟩), .agg #[.int .i64 k, .string key, .string val], .int .i64 6] w (ExPost w base X S gR G W.ss.length (if fndL (W.ss[i].li j) key = false ∧ 6 ≤ (W.ss[i].li j).length then (W, no' tFull) else (W.put i s', ok'))) := by
  have ho := h.ls i j hi hj
  have hn := (hz.li i j hi hj).1
  have hsz := (hz.li i j hi hj).sz
  have hp := h.cs i j hi hj
  have hpf := h.blk.frozen (i * 5 + (j + 1))
  have hne : S ≠ G i j := Ne.symm (h.neGS i j hi hj)
  by_cases h0 : fndL (W.ss[i].li j) key = false ∧ 6 ≤ (W.ss[i].li j).length
  · rw [if_pos h0]
    exact (store_full (G i j) (C i j) S _ (W.ss[i].li j) k key val 6 w ho hr (by omega) hsz hp h0.1 h0.2).mono fun e w' hh => ExPost.same h lo hz hb hh.1 hh.2
  · rw [if_neg h0]
    refine (store_ok (G i j) (C i j) S (i * 5 + (j + 1)) (W.ss[i].li j) k key val 6 w ho hr (by omega) hsz hp hpf hne (by omega) (by omega) ?_).mono ?_
    · cases e : fndL (W.ss[i].li j) key
      · right
        rcases Nat.lt_or_ge (W.ss[i].li j).length 6 with hh | hh
        · exact hh
        · exact absurd ⟨e, hh⟩ h0
      · exact .inl rfl
    · rintro e w' ⟨g', c', rfl, ho', hl', hc⟩
      refine ⟨rfl, h.stored lo (by have q1 := lo.g i j hi hj; rcases hl' with hh | hh <;> omega) hz hi hj (by have h1 := plusL_len (W.ss[i].li j) key val; rw [plus_ins hr] at h1; omega) (hsz.ins (by omega) (by omega)) ho' hc hs hl, hc.bel (lo.g i j hi hj) lo.s hb, fun b hb _ h2 _ h4 => hc.other b hb (h4 i j hi hj) h2⟩

set_option maxHeartbeats 2000000 in
theorem execute_begin (base X S gR cR : Nat) (G C : Nat → Nat → Nat) (W : Wd) (i : Nat) (key val : ByteArray) (w : World) (h : OwnD w X S gR cR G C W) (lo : LoD base X S gR G W.ss.length) (hw : WorldOk W) (hb : base ≤ w.heap.size) (hi : i < W.ss.length) (hkz : key.size ≤ 8) (hvz : val.size ≤ 60) (hst : W.ss[i].st ≠ 2) :
    Calls Tryd.prog 24 #[.pointer (some ⟨X, 0, none⟩), .int .i64 i, .agg #[.int .i64 1, .string key, .string val]] w (ExPost w base X S gR G W.ss.length (did1 W i 1 key val)) := by
  have hz := worldOk_sz hw
  have hXw := h.box.lt
  have hSw := h.blk.lt
  have x1 := h.box.cell (j := 1) (by simp)
  simp only [List.getElem_cons_zero, List.getElem_cons_succ] at x1
  unfold slc at x1
  have c0 := h.st i hi
  have hii : (i : Int) < (W.ss.length : Int) := by omega
  have b0 : Below w.heap.size w ((w.alloc (.cells #[.int .i64 1, .string key, .string val] 27)).alloc (.cells #[.int .i64 0, .string ⟨#[]⟩, .int .i64 0] 30)) := ((Below.refl _ _).alloc (Nat.le_refl _) _).alloc (by simp) _
  have h0 := h.kept b0
  have X0 : RowTo ((w.alloc (.cells #[.int .i64 1, .string key, .string val] 27)).alloc (.cells #[.int .i64 0, .string ⟨#[]⟩, .int .i64 0] 30)) (w.heap.size + 1) 30 3 [.int .i64 0, .string ⟨#[]⟩, .int .i64 0] := by
    have := RowTo.whole (w.alloc (.cells #[.int .i64 1, .string key, .string val] 27)) #[.int .i64 0, .string ⟨#[]⟩, .int .i64 0] 30
    simpa using this
  have hzs : ((w.alloc (.cells #[.int .i64 1, .string key, .string val] 27)).alloc (.cells #[.int .i64 0, .string ⟨#[]⟩, .int .i64 0] 30)).heap.size = w.heap.size + 1 + 1 := by simp
  have hgr := h.rows.row.lt
  have hgg : ∀ i j, i < W.ss.length → j < 4 → w.heap.size + 1 ≠ G i j := fun i j hi hj => by have := (h.ls i j hi hj).row.lt; omega
  obtain ⟨r, hr⟩ : ∃ r, r = did1 W i 1 key val := ⟨_, rfl⟩
  rw [← hr]
  have hbs : base ≤ ((w.alloc (.cells #[.int .i64 1, .string key, .string val] 27)).alloc (.cells #[.int .i64 0, .string ⟨#[]⟩, .int .i64 0] 30)).heap.size := by omega
  have HC := Lib.hid (show Calls Tryd.prog 39 #[.pointer (some ⟨S, i * 5, none⟩)] ((w.alloc (.cells #[.int .i64 1, .string key, .string val] 27)).alloc (.cells #[.int .i64 0, .string ⟨#[]⟩, .int .i64 0] 30)) (ExPost ((w.alloc (.cells #[.int .i64 1, .string key, .string val] 27)).alloc (.cells #[.int .i64 0, .string ⟨#[]⟩, .int .i64 0] 30)) base X S gR G W.ss.length r) by
    rw [hr]
    exact begin_any base X S gR cR G C W i _ h0 lo hz hbs hi hst key val)
  have H := Lib.hid h
  have HZ := Lib.hid hz
  have HW := Lib.hid hw
  have B0 := Lib.hid b0
  have HX0 := Lib.hid X0
  have HZS := Lib.hid hzs
  have HG := Lib.hid hgg
  have HR := Lib.hid hr
  clear h hz hw b0 X0 hzs hgg hr h0 hbs
  have e2 : (W.ss[i].st == 2) = false := beq_eq_false_iff_ne.2 hst
  · skip
    go_enter Tryd.func24, Tryd.ntmps24
    go_wp2_with fail
    refine HC.out.mono ?_
    rintro e wB hp
    obtain rfl := hp.1
    have RB := HX0.out.same (hp.2.2.2 (w.heap.size + 1) (by rw [HZS.out]; omega) (by omega) (by omega) (by omega) HG.out)
    have HP := Lib.hid hp
    have r0 := RB.cell (j := 0) (by simp)
    have r1 := RB.cell (j := 1) (by simp)
    have r2 := RB.cell (j := 2) (by simp)
    have s0 := RB.frozen 0
    have s1 := RB.frozen 1
    have s2 := RB.frozen 2
    simp only [List.getElem_cons_zero, List.getElem_cons_succ] at r0 r1 r2
    have HRB := Lib.hid RB
    clear hp RB
    unfold ansV
    go_wp2
    refine bodyPost_ret (v := .agg #[.int .i64 r.2.kind, .string r.2.text, .int .i64 0]) (by simp [results, Tryd.results24, go_sem, r0, r1, r2]) rfl ?_
    exact HP.out.laid B0.out hb (by omega) HRB.out _ _ _

set_option maxHeartbeats 2000000 in
theorem execute_commit (base X S gR cR : Nat) (G C : Nat → Nat → Nat) (W : Wd) (i : Nat) (key val : ByteArray) (w : World) (h : OwnD w X S gR cR G C W) (lo : LoD base X S gR G W.ss.length) (hw : WorldOk W) (hb : base ≤ w.heap.size) (hi : i < W.ss.length) (hkz : key.size ≤ 8) (hvz : val.size ≤ 60) :
    Calls Tryd.prog 24 #[.pointer (some ⟨X, 0, none⟩), .int .i64 i, .agg #[.int .i64 2, .string key, .string val]] w (ExPost w base X S gR G W.ss.length (did1 W i 2 key val)) := by
  have hz := worldOk_sz hw
  have hXw := h.box.lt
  have hSw := h.blk.lt
  have x1 := h.box.cell (j := 1) (by simp)
  simp only [List.getElem_cons_zero, List.getElem_cons_succ] at x1
  unfold slc at x1
  have c0 := h.st i hi
  have hii : (i : Int) < (W.ss.length : Int) := by omega
  have b0 : Below w.heap.size w ((w.alloc (.cells #[.int .i64 2, .string key, .string val] 27)).alloc (.cells #[.int .i64 0, .string ⟨#[]⟩, .int .i64 0] 30)) := ((Below.refl _ _).alloc (Nat.le_refl _) _).alloc (by simp) _
  have h0 := h.kept b0
  have X0 : RowTo ((w.alloc (.cells #[.int .i64 2, .string key, .string val] 27)).alloc (.cells #[.int .i64 0, .string ⟨#[]⟩, .int .i64 0] 30)) (w.heap.size + 1) 30 3 [.int .i64 0, .string ⟨#[]⟩, .int .i64 0] := by
    have := RowTo.whole (w.alloc (.cells #[.int .i64 2, .string key, .string val] 27)) #[.int .i64 0, .string ⟨#[]⟩, .int .i64 0] 30
    simpa using this
  have hzs : ((w.alloc (.cells #[.int .i64 2, .string key, .string val] 27)).alloc (.cells #[.int .i64 0, .string ⟨#[]⟩, .int .i64 0] 30)).heap.size = w.heap.size + 1 + 1 := by simp
  have hgr := h.rows.row.lt
  have hgg : ∀ i j, i < W.ss.length → j < 4 → w.heap.size + 1 ≠ G i j := fun i j hi hj => by have := (h.ls i j hi hj).row.lt; omega
  obtain ⟨r, hr⟩ : ∃ r, r = did1 W i 2 key val := ⟨_, rfl⟩
  rw [← hr]
  have hbs : base ≤ ((w.alloc (.cells #[.int .i64 2, .string key, .string val] 27)).alloc (.cells #[.int .i64 0, .string ⟨#[]⟩, .int .i64 0] 30)).heap.size := by omega
  have HC := Lib.hid (show Calls Tryd.prog 40 #[.pointer (some ⟨X, 0, none⟩), .pointer (some ⟨S, i * 5, none⟩), .int .i64 2] ((w.alloc (.cells #[.int .i64 2, .string key, .string val] 27)).alloc (.cells #[.int .i64 0, .string ⟨#[]⟩, .int .i64 0] 30)) (ExPost ((w.alloc (.cells #[.int .i64 2, .string key, .string val] 27)).alloc (.cells #[.int .i64 0, .string ⟨#[]⟩, .int .i64 0] 30)) base X S gR G W.ss.length r) by
    rw [hr]
    exact end_any base X S gR cR G C W i _ h0 lo hz (pairsB_rising hw.rows).1 hbs hi 2 (.inl rfl) key val)
  have H := Lib.hid h
  have HZ := Lib.hid hz
  have HW := Lib.hid hw
  have B0 := Lib.hid b0
  have HX0 := Lib.hid X0
  have HZS := Lib.hid hzs
  have HG := Lib.hid hgg
  have HR := Lib.hid hr
  clear h hz hw b0 X0 hzs hgg hr h0 hbs
  cases e2 : (W.ss[i].st == 2)
  all_goals
    go_enter Tryd.func24, Tryd.ntmps24
    go_wp2_with fail
    refine HC.out.mono ?_
    rintro e wB hp
    obtain rfl := hp.1
    have RB := HX0.out.same (hp.2.2.2 (w.heap.size + 1) (by rw [HZS.out]; omega) (by omega) (by omega) (by omega) HG.out)
    have HP := Lib.hid hp
    have r0 := RB.cell (j := 0) (by simp)
    have r1 := RB.cell (j := 1) (by simp)
    have r2 := RB.cell (j := 2) (by simp)
    have s0 := RB.frozen 0
    have s1 := RB.frozen 1
    have s2 := RB.frozen 2
    simp only [List.getElem_cons_zero, List.getElem_cons_succ] at r0 r1 r2
    have HRB := Lib.hid RB
    clear hp RB
    unfold ansV
    go_wp2
    refine bodyPost_ret (v := .agg #[.int .i64 r.2.kind, .string r.2.text, .int .i64 0]) (by simp [results, Tryd.results24, go_sem, r0, r1, r2]) rfl ?_
    exact HP.out.laid B0.out hb (by omega) HRB.out _ _ _

set_option maxHeartbeats 2000000 in
theorem execute_rollback (base X S gR cR : Nat) (G C : Nat → Nat → Nat) (W : Wd) (i : Nat) (key val : ByteArray) (w : World) (h : OwnD w X S gR cR G C W) (lo : LoD base X S gR G W.ss.length) (hw : WorldOk W) (hb : base ≤ w.heap.size) (hi : i < W.ss.length) (hkz : key.size ≤ 8) (hvz : val.size ≤ 60) :
    Calls Tryd.prog 24 #[.pointer (some ⟨X, 0, none⟩), .int .i64 i, .agg #[.int .i64 3, .string key, .string val]] w (ExPost w base X S gR G W.ss.length (did1 W i 3 key val)) := by
  have hz := worldOk_sz hw
  have hXw := h.box.lt
  have hSw := h.blk.lt
  have x1 := h.box.cell (j := 1) (by simp)
  simp only [List.getElem_cons_zero, List.getElem_cons_succ] at x1
  unfold slc at x1
  have c0 := h.st i hi
  have hii : (i : Int) < (W.ss.length : Int) := by omega
  have b0 : Below w.heap.size w ((w.alloc (.cells #[.int .i64 3, .string key, .string val] 27)).alloc (.cells #[.int .i64 0, .string ⟨#[]⟩, .int .i64 0] 30)) := ((Below.refl _ _).alloc (Nat.le_refl _) _).alloc (by simp) _
  have h0 := h.kept b0
  have X0 : RowTo ((w.alloc (.cells #[.int .i64 3, .string key, .string val] 27)).alloc (.cells #[.int .i64 0, .string ⟨#[]⟩, .int .i64 0] 30)) (w.heap.size + 1) 30 3 [.int .i64 0, .string ⟨#[]⟩, .int .i64 0] := by
    have := RowTo.whole (w.alloc (.cells #[.int .i64 3, .string key, .string val] 27)) #[.int .i64 0, .string ⟨#[]⟩, .int .i64 0] 30
    simpa using this
  have hzs : ((w.alloc (.cells #[.int .i64 3, .string key, .string val] 27)).alloc (.cells #[.int .i64 0, .string ⟨#[]⟩, .int .i64 0] 30)).heap.size = w.heap.size + 1 + 1 := by simp
  have hgr := h.rows.row.lt
  have hgg : ∀ i j, i < W.ss.length → j < 4 → w.heap.size + 1 ≠ G i j := fun i j hi hj => by have := (h.ls i j hi hj).row.lt; omega
  obtain ⟨r, hr⟩ : ∃ r, r = did1 W i 3 key val := ⟨_, rfl⟩
  rw [← hr]
  have hbs : base ≤ ((w.alloc (.cells #[.int .i64 3, .string key, .string val] 27)).alloc (.cells #[.int .i64 0, .string ⟨#[]⟩, .int .i64 0] 30)).heap.size := by omega
  have HC := Lib.hid (show Calls Tryd.prog 40 #[.pointer (some ⟨X, 0, none⟩), .pointer (some ⟨S, i * 5, none⟩), .int .i64 3] ((w.alloc (.cells #[.int .i64 3, .string key, .string val] 27)).alloc (.cells #[.int .i64 0, .string ⟨#[]⟩, .int .i64 0] 30)) (ExPost ((w.alloc (.cells #[.int .i64 3, .string key, .string val] 27)).alloc (.cells #[.int .i64 0, .string ⟨#[]⟩, .int .i64 0] 30)) base X S gR G W.ss.length r) by
    rw [hr]
    exact end_any base X S gR cR G C W i _ h0 lo hz (pairsB_rising hw.rows).1 hbs hi 3 (.inr rfl) key val)
  have H := Lib.hid h
  have HZ := Lib.hid hz
  have HW := Lib.hid hw
  have B0 := Lib.hid b0
  have HX0 := Lib.hid X0
  have HZS := Lib.hid hzs
  have HG := Lib.hid hgg
  have HR := Lib.hid hr
  clear h hz hw b0 X0 hzs hgg hr h0 hbs
  cases e2 : (W.ss[i].st == 2)
  all_goals
    go_enter Tryd.func24, Tryd.ntmps24
    go_wp2_with fail
    refine HC.out.mono ?_
    rintro e wB hp
    obtain rfl := hp.1
    have RB := HX0.out.same (hp.2.2.2 (w.heap.size + 1) (by rw [HZS.out]; omega) (by omega) (by omega) (by omega) HG.out)
    have HP := Lib.hid hp
    have r0 := RB.cell (j := 0) (by simp)
    have r1 := RB.cell (j := 1) (by simp)
    have r2 := RB.cell (j := 2) (by simp)
    have s0 := RB.frozen 0
    have s1 := RB.frozen 1
    have s2 := RB.frozen 2
    simp only [List.getElem_cons_zero, List.getElem_cons_succ] at r0 r1 r2
    have HRB := Lib.hid RB
    clear hp RB
    unfold ansV
    go_wp2
    refine bodyPost_ret (v := .agg #[.int .i64 r.2.kind, .string r.2.text, .int .i64 0]) (by simp [results, Tryd.results24, go_sem, r0, r1, r2]) rfl ?_
    exact HP.out.laid B0.out hb (by omega) HRB.out _ _ _

set_option maxHeartbeats 2000000 in
theorem execute_reset (base X S gR cR : Nat) (G C : Nat → Nat → Nat) (W : Wd) (i : Nat) (key val : ByteArray) (w : World) (h : OwnD w X S gR cR G C W) (lo : LoD base X S gR G W.ss.length) (hw : WorldOk W) (hb : base ≤ w.heap.size) (hi : i < W.ss.length) (hkz : key.size ≤ 8) (hvz : val.size ≤ 60) (hst : W.ss[i].st ≠ 2) :
    Calls Tryd.prog 24 #[.pointer (some ⟨X, 0, none⟩), .int .i64 i, .agg #[.int .i64 4, .string key, .string val]] w (ExPost w base X S gR G W.ss.length (did1 W i 4 key val)) := by
  have hz := worldOk_sz hw
  have hXw := h.box.lt
  have hSw := h.blk.lt
  have x1 := h.box.cell (j := 1) (by simp)
  simp only [List.getElem_cons_zero, List.getElem_cons_succ] at x1
  unfold slc at x1
  have c0 := h.st i hi
  have hii : (i : Int) < (W.ss.length : Int) := by omega
  have b0 : Below w.heap.size w ((w.alloc (.cells #[.int .i64 4, .string key, .string val] 27)).alloc (.cells #[.int .i64 0, .string ⟨#[]⟩, .int .i64 0] 30)) := ((Below.refl _ _).alloc (Nat.le_refl _) _).alloc (by simp) _
  have h0 := h.kept b0
  have X0 : RowTo ((w.alloc (.cells #[.int .i64 4, .string key, .string val] 27)).alloc (.cells #[.int .i64 0, .string ⟨#[]⟩, .int .i64 0] 30)) (w.heap.size + 1) 30 3 [.int .i64 0, .string ⟨#[]⟩, .int .i64 0] := by
    have := RowTo.whole (w.alloc (.cells #[.int .i64 4, .string key, .string val] 27)) #[.int .i64 0, .string ⟨#[]⟩, .int .i64 0] 30
    simpa using this
  have hzs : ((w.alloc (.cells #[.int .i64 4, .string key, .string val] 27)).alloc (.cells #[.int .i64 0, .string ⟨#[]⟩, .int .i64 0] 30)).heap.size = w.heap.size + 1 + 1 := by simp
  have hgr := h.rows.row.lt
  have hgg : ∀ i j, i < W.ss.length → j < 4 → w.heap.size + 1 ≠ G i j := fun i j hi hj => by have := (h.ls i j hi hj).row.lt; omega
  obtain ⟨r, hr⟩ : ∃ r, r = did1 W i 4 key val := ⟨_, rfl⟩
  rw [← hr]
  have hbs : base ≤ ((w.alloc (.cells #[.int .i64 4, .string key, .string val] 27)).alloc (.cells #[.int .i64 0, .string ⟨#[]⟩, .int .i64 0] 30)).heap.size := by omega
  have HC := Lib.hid (show Calls Tryd.prog 41 #[.pointer (some ⟨S, i * 5, none⟩)] ((w.alloc (.cells #[.int .i64 4, .string key, .string val] 27)).alloc (.cells #[.int .i64 0, .string ⟨#[]⟩, .int .i64 0] 30)) (ExPost ((w.alloc (.cells #[.int .i64 4, .string key, .string val] 27)).alloc (.cells #[.int .i64 0, .string ⟨#[]⟩, .int .i64 0] 30)) base X S gR G W.ss.length r) by
    rw [hr]
    exact reset_any base X S gR cR G C W i _ h0 lo hz hbs hi hst key val)
  have H := Lib.hid h
  have HZ := Lib.hid hz
  have HW := Lib.hid hw
  have B0 := Lib.hid b0
  have HX0 := Lib.hid X0
  have HZS := Lib.hid hzs
  have HG := Lib.hid hgg
  have HR := Lib.hid hr
  clear h hz hw b0 X0 hzs hgg hr h0 hbs
  have e2 : (W.ss[i].st == 2) = false := beq_eq_false_iff_ne.2 hst
  · skip
    go_enter Tryd.func24, Tryd.ntmps24
    go_wp2_with fail
    refine HC.out.mono ?_
    rintro e wB hp
    obtain rfl := hp.1
    have RB := HX0.out.same (hp.2.2.2 (w.heap.size + 1) (by rw [HZS.out]; omega) (by omega) (by omega) (by omega) HG.out)
    have HP := Lib.hid hp
    have r0 := RB.cell (j := 0) (by simp)
    have r1 := RB.cell (j := 1) (by simp)
    have r2 := RB.cell (j := 2) (by simp)
    have s0 := RB.frozen 0
    have s1 := RB.frozen 1
    have s2 := RB.frozen 2
    simp only [List.getElem_cons_zero, List.getElem_cons_succ] at r0 r1 r2
    have HRB := Lib.hid RB
    clear hp RB
    unfold ansV
    go_wp2
    refine bodyPost_ret (v := .agg #[.int .i64 r.2.kind, .string r.2.text, .int .i64 0]) (by simp [results, Tryd.results24, go_sem, r0, r1, r2]) rfl ?_
    exact HP.out.laid B0.out hb (by omega) HRB.out _ _ _

set_option maxHeartbeats 2000000 in
theorem execute_fail (base X S gR cR : Nat) (G C : Nat → Nat → Nat) (W : Wd) (i : Nat) (key val : ByteArray) (w : World) (h : OwnD w X S gR cR G C W) (lo : LoD base X S gR G W.ss.length) (hw : WorldOk W) (hb : base ≤ w.heap.size) (hi : i < W.ss.length) (hkz : key.size ≤ 8) (hvz : val.size ≤ 60) (hst : W.ss[i].st ≠ 2) :
    Calls Tryd.prog 24 #[.pointer (some ⟨X, 0, none⟩), .int .i64 i, .agg #[.int .i64 5, .string key, .string val]] w (ExPost w base X S gR G W.ss.length (did1 W i 5 key val)) := by
  have hz := worldOk_sz hw
  have hXw := h.box.lt
  have hSw := h.blk.lt
  have x1 := h.box.cell (j := 1) (by simp)
  simp only [List.getElem_cons_zero, List.getElem_cons_succ] at x1
  unfold slc at x1
  have c0 := h.st i hi
  have hii : (i : Int) < (W.ss.length : Int) := by omega
  have b0 : Below w.heap.size w ((w.alloc (.cells #[.int .i64 5, .string key, .string val] 27)).alloc (.cells #[.int .i64 0, .string ⟨#[]⟩, .int .i64 0] 30)) := ((Below.refl _ _).alloc (Nat.le_refl _) _).alloc (by simp) _
  have h0 := h.kept b0
  have X0 : RowTo ((w.alloc (.cells #[.int .i64 5, .string key, .string val] 27)).alloc (.cells #[.int .i64 0, .string ⟨#[]⟩, .int .i64 0] 30)) (w.heap.size + 1) 30 3 [.int .i64 0, .string ⟨#[]⟩, .int .i64 0] := by
    have := RowTo.whole (w.alloc (.cells #[.int .i64 5, .string key, .string val] 27)) #[.int .i64 0, .string ⟨#[]⟩, .int .i64 0] 30
    simpa using this
  have hzs : ((w.alloc (.cells #[.int .i64 5, .string key, .string val] 27)).alloc (.cells #[.int .i64 0, .string ⟨#[]⟩, .int .i64 0] 30)).heap.size = w.heap.size + 1 + 1 := by simp
  have hgr := h.rows.row.lt
  have hgg : ∀ i j, i < W.ss.length → j < 4 → w.heap.size + 1 ≠ G i j := fun i j hi hj => by have := (h.ls i j hi hj).row.lt; omega
  obtain ⟨r, hr⟩ : ∃ r, r = did1 W i 5 key val := ⟨_, rfl⟩
  rw [← hr]
  have hbs : base ≤ ((w.alloc (.cells #[.int .i64 5, .string key, .string val] 27)).alloc (.cells #[.int .i64 0, .string ⟨#[]⟩, .int .i64 0] 30)).heap.size := by omega
  have HC := Lib.hid (show Calls Tryd.prog 38 #[.string tAsked] ((w.alloc (.cells #[.int .i64 5, .string key, .string val] 27)).alloc (.cells #[.int .i64 0, .string ⟨#[]⟩, .int .i64 0] 30)) (ExPost ((w.alloc (.cells #[.int .i64 5, .string key, .string val] 27)).alloc (.cells #[.int .i64 0, .string ⟨#[]⟩, .int .i64 0] 30)) base X S gR G W.ss.length r) by
    rw [hr]
    rw [show did1 W i 5 key val = (W, no' tAsked) by unfold did1; simp only [getD_at hi]; rw [if_neg (fun hh => hst hh.1)]; simp]
    exact (failure_any tAsked _).mono fun e w' hh => ExPost.same h0 lo hz hbs hh.1 hh.2)
  have H := Lib.hid h
  have HZ := Lib.hid hz
  have HW := Lib.hid hw
  have B0 := Lib.hid b0
  have HX0 := Lib.hid X0
  have HZS := Lib.hid hzs
  have HG := Lib.hid hgg
  have HR := Lib.hid hr
  clear h hz hw b0 X0 hzs hgg hr h0 hbs
  have e2 : (W.ss[i].st == 2) = false := beq_eq_false_iff_ne.2 hst
  · skip
    go_enter Tryd.func24, Tryd.ntmps24
    go_wp2_with fail
    refine HC.out.mono ?_
    rintro e wB hp
    obtain rfl := hp.1
    have RB := HX0.out.same (hp.2.2.2 (w.heap.size + 1) (by rw [HZS.out]; omega) (by omega) (by omega) (by omega) HG.out)
    have HP := Lib.hid hp
    have r0 := RB.cell (j := 0) (by simp)
    have r1 := RB.cell (j := 1) (by simp)
    have r2 := RB.cell (j := 2) (by simp)
    have s0 := RB.frozen 0
    have s1 := RB.frozen 1
    have s2 := RB.frozen 2
    simp only [List.getElem_cons_zero, List.getElem_cons_succ] at r0 r1 r2
    have HRB := Lib.hid RB
    clear hp RB
    unfold ansV
    go_wp2
    refine bodyPost_ret (v := .agg #[.int .i64 r.2.kind, .string r.2.text, .int .i64 0]) (by simp [results, Tryd.results24, go_sem, r0, r1, r2]) rfl ?_
    exact HP.out.laid B0.out hb (by omega) HRB.out _ _ _

set_option maxHeartbeats 2000000 in
theorem execute_put (base X S gR cR : Nat) (G C : Nat → Nat → Nat) (W : Wd) (i : Nat) (key val : ByteArray) (w : World) (h : OwnD w X S gR cR G C W) (lo : LoD base X S gR G W.ss.length) (hw : WorldOk W) (hb : base ≤ w.heap.size) (hi : i < W.ss.length) (hkz : key.size ≤ 8) (hvz : val.size ≤ 60) (hst : W.ss[i].st ≠ 2) :
    Calls Tryd.prog 24 #[.pointer (some ⟨X, 0, none⟩), .int .i64 i, .agg #[.int .i64 10, .string key, .string val]] w (ExPost w base X S gR G W.ss.length (did1 W i 10 key val)) := by
  have hz := worldOk_sz hw
  have hXw := h.box.lt
  have hSw := h.blk.lt
  have x1 := h.box.cell (j := 1) (by simp)
  simp only [List.getElem_cons_zero, List.getElem_cons_succ] at x1
  unfold slc at x1
  have c0 := h.st i hi
  have hii : (i : Int) < (W.ss.length : Int) := by omega
  have b0 : Below w.heap.size w ((w.alloc (.cells #[.int .i64 10, .string key, .string val] 27)).alloc (.cells #[.int .i64 0, .string ⟨#[]⟩, .int .i64 0] 30)) := ((Below.refl _ _).alloc (Nat.le_refl _) _).alloc (by simp) _
  have h0 := h.kept b0
  have X0 : RowTo ((w.alloc (.cells #[.int .i64 10, .string key, .string val] 27)).alloc (.cells #[.int .i64 0, .string ⟨#[]⟩, .int .i64 0] 30)) (w.heap.size + 1) 30 3 [.int .i64 0, .string ⟨#[]⟩, .int .i64 0] := by
    have := RowTo.whole (w.alloc (.cells #[.int .i64 10, .string key, .string val] 27)) #[.int .i64 0, .string ⟨#[]⟩, .int .i64 0] 30
    simpa using this
  have hzs : ((w.alloc (.cells #[.int .i64 10, .string key, .string val] 27)).alloc (.cells #[.int .i64 0, .string ⟨#[]⟩, .int .i64 0] 30)).heap.size = w.heap.size + 1 + 1 := by simp
  have hgr := h.rows.row.lt
  have hgg : ∀ i j, i < W.ss.length → j < 4 → w.heap.size + 1 ≠ G i j := fun i j hi hj => by have := (h.ls i j hi hj).row.lt; omega
  obtain ⟨r, hr⟩ : ∃ r, r = did1 W i 10 key val := ⟨_, rfl⟩
  rw [← hr]
  have hbs : base ≤ ((w.alloc (.cells #[.int .i64 10, .string key, .string val] 27)).alloc (.cells #[.int .i64 0, .string ⟨#[]⟩, .int .i64 0] 30)).heap.size := by omega
  have HC := Lib.hid (show Calls Tryd.prog 45 #[.pointer (some ⟨X, 0, none⟩), .int .i64 i, .agg #[.int .i64 10, .string key, .string val]] ((w.alloc (.cells #[.int .i64 10, .string key, .string val] 27)).alloc (.cells #[.int .i64 0, .string ⟨#[]⟩, .int .i64 0] 30)) (ExPost ((w.alloc (.cells #[.int .i64 10, .string key, .string val] 27)).alloc (.cells #[.int .i64 0, .string ⟨#[]⟩, .int .i64 0] 30)) base X S gR G W.ss.length r) by
    rw [hr]
    exact put_any base X S gR cR G C W i key val _ h0 lo hw hbs hi hkz hvz hst)
  have H := Lib.hid h
  have HZ := Lib.hid hz
  have HW := Lib.hid hw
  have B0 := Lib.hid b0
  have HX0 := Lib.hid X0
  have HZS := Lib.hid hzs
  have HG := Lib.hid hgg
  have HR := Lib.hid hr
  clear h hz hw b0 X0 hzs hgg hr h0 hbs
  have e2 : (W.ss[i].st == 2) = false := beq_eq_false_iff_ne.2 hst
  · skip
    go_enter Tryd.func24, Tryd.ntmps24
    go_wp2_with fail
    refine HC.out.mono ?_
    rintro e wB hp
    obtain rfl := hp.1
    have RB := HX0.out.same (hp.2.2.2 (w.heap.size + 1) (by rw [HZS.out]; omega) (by omega) (by omega) (by omega) HG.out)
    have HP := Lib.hid hp
    have r0 := RB.cell (j := 0) (by simp)
    have r1 := RB.cell (j := 1) (by simp)
    have r2 := RB.cell (j := 2) (by simp)
    have s0 := RB.frozen 0
    have s1 := RB.frozen 1
    have s2 := RB.frozen 2
    simp only [List.getElem_cons_zero, List.getElem_cons_succ] at r0 r1 r2
    have HRB := Lib.hid RB
    clear hp RB
    unfold ansV
    go_wp2
    refine bodyPost_ret (v := .agg #[.int .i64 r.2.kind, .string r.2.text, .int .i64 0]) (by simp [results, Tryd.results24, go_sem, r0, r1, r2]) rfl ?_
    exact HP.out.laid B0.out hb (by omega) HRB.out _ _ _

set_option maxHeartbeats 2000000 in
theorem execute_failed (base X S gR cR : Nat) (G C : Nat → Nat → Nat) (W : Wd) (i : Nat) (k : Int) (key val : ByteArray) (w : World) (h : OwnD w X S gR cR G C W) (lo : LoD base X S gR G W.ss.length) (hw : WorldOk W) (hb : base ≤ w.heap.size) (hi : i < W.ss.length) (hkz : key.size ≤ 8) (hvz : val.size ≤ 60) (hst : W.ss[i].st = 2) (hk2 : ¬ (k = 2 ∨ k = 3)) :
    Calls Tryd.prog 24 #[.pointer (some ⟨X, 0, none⟩), .int .i64 i, .agg #[.int .i64 k, .string key, .string val]] w (ExPost w base X S gR G W.ss.length (did1 W i k key val)) := by
  have hz := worldOk_sz hw
  have hXw := h.box.lt
  have hSw := h.blk.lt
  have x1 := h.box.cell (j := 1) (by simp)
  simp only [List.getElem_cons_zero, List.getElem_cons_succ] at x1
  unfold slc at x1
  have c0 := h.st i hi
  have hii : (i : Int) < (W.ss.length : Int) := by omega
  have b0 : Below w.heap.size w ((w.alloc (.cells #[.int .i64 k, .string key, .string val] 27)).alloc (.cells #[.int .i64 0, .string ⟨#[]⟩, .int .i64 0] 30)) := ((Below.refl _ _).alloc (Nat.le_refl _) _).alloc (by simp) _
  have h0 := h.kept b0
  have X0 : RowTo ((w.alloc (.cells #[.int .i64 k, .string key, .string val] 27)).alloc (.cells #[.int .i64 0, .string ⟨#[]⟩, .int .i64 0] 30)) (w.heap.size + 1) 30 3 [.int .i64 0, .string ⟨#[]⟩, .int .i64 0] := by
    have := RowTo.whole (w.alloc (.cells #[.int .i64 k, .string key, .string val] 27)) #[.int .i64 0, .string ⟨#[]⟩, .int .i64 0] 30
    simpa using this
  have hzs : ((w.alloc (.cells #[.int .i64 k, .string key, .string val] 27)).alloc (.cells #[.int .i64 0, .string ⟨#[]⟩, .int .i64 0] 30)).heap.size = w.heap.size + 1 + 1 := by simp
  have hgr := h.rows.row.lt
  have hgg : ∀ i j, i < W.ss.length → j < 4 → w.heap.size + 1 ≠ G i j := fun i j hi hj => by have := (h.ls i j hi hj).row.lt; omega
  obtain ⟨r, hr⟩ : ∃ r, r = did1 W i k key val := ⟨_, rfl⟩
  rw [← hr]
  have hbs : base ≤ ((w.alloc (.cells #[.int .i64 k, .string key, .string val] 27)).alloc (.cells #[.int .i64 0, .string ⟨#[]⟩, .int .i64 0] 30)).heap.size := by omega
  have HC := Lib.hid (show Calls Tryd.prog 38 #[.string tFailed] ((w.alloc (.cells #[.int .i64 k, .string key, .string val] 27)).alloc (.cells #[.int .i64 0, .string ⟨#[]⟩, .int .i64 0] 30)) (ExPost ((w.alloc (.cells #[.int .i64 k, .string key, .string val] 27)).alloc (.cells #[.int .i64 0, .string ⟨#[]⟩, .int .i64 0] 30)) base X S gR G W.ss.length r) by
    rw [hr]
    rw [show did1 W i k key val = (W, no' tFailed) by unfold did1; simp only [getD_at hi]; rw [if_pos ⟨hst, hk2⟩]]
    exact (failure_any tFailed _).mono fun e w' hh => ExPost.same h0 lo hz hbs hh.1 hh.2)
  have H := Lib.hid h
  have HZ := Lib.hid hz
  have HW := Lib.hid hw
  have B0 := Lib.hid b0
  have HX0 := Lib.hid X0
  have HZS := Lib.hid hzs
  have HG := Lib.hid hgg
  have HR := Lib.hid hr
  clear h hz hw b0 X0 hzs hgg hr h0 hbs
  have e2 : (W.ss[i].st == 2) = true := beq_iff_eq.2 hst
  have e3 : (k != 2) = true := bne_iff_ne.2 (fun e => hk2 (.inl e))
  have e4 : (k != 3) = true := bne_iff_ne.2 (fun e => hk2 (.inr e))
  clear hk2
  · skip
    go_enter Tryd.func24, Tryd.ntmps24
    go_wp2_with fail
    refine HC.out.mono ?_
    rintro e wB hp
    obtain rfl := hp.1
    have RB := HX0.out.same (hp.2.2.2 (w.heap.size + 1) (by rw [HZS.out]; omega) (by omega) (by omega) (by omega) HG.out)
    have HP := Lib.hid hp
    have r0 := RB.cell (j := 0) (by simp)
    have r1 := RB.cell (j := 1) (by simp)
    have r2 := RB.cell (j := 2) (by simp)
    have s0 := RB.frozen 0
    have s1 := RB.frozen 1
    have s2 := RB.frozen 2
    simp only [List.getElem_cons_zero, List.getElem_cons_succ] at r0 r1 r2
    have HRB := Lib.hid RB
    clear hp RB
    unfold ansV
    go_wp2
    refine bodyPost_ret (v := .agg #[.int .i64 r.2.kind, .string r.2.text, .int .i64 0]) (by simp [results, Tryd.results24, go_sem, r0, r1, r2]) rfl ?_
    exact HP.out.laid B0.out hb (by omega) HRB.out _ _ _

end Go.Proofs.YtpbaobmegomfpabDoor

/-
  Walks of back.execute: Set and Prep.
-/
namespace Go.Proofs.YtpbaobmegomfpabDoor
open Go.RowKit
set_option linter.unusedVariables false
set_option linter.unusedSimpArgs false
set_option maxRecDepth 100000

set_option maxHeartbeats 2000000 in
theorem execute_set (base X S gR cR : Nat) (G C : Nat → Nat → Nat) (W : Wd) (i : Nat) (key val : ByteArray) (w : World) (h : OwnD w X S gR cR G C W) (lo : LoD base X S gR G W.ss.length) (hw : WorldOk W) (hb : base ≤ w.heap.size) (hi : i < W.ss.length) (hkz : key.size ≤ 8) (hvz : val.size ≤ 60) (hst : W.ss[i].st ≠ 2) :
    Calls Tryd.prog 24 #[.pointer (some ⟨X, 0, none⟩), .int .i64 i, .agg #[.int .i64 9, .string key, .string val]] w (ExPost w base X S gR G W.ss.length (did1 W i 9 key val)) := by
  have hz := worldOk_sz hw
  have hXw := h.box.lt
  have hSw := h.blk.lt
  have x1 := h.box.cell (j := 1) (by simp)
  simp only [List.getElem_cons_zero, List.getElem_cons_succ] at x1
  unfold slc at x1
  have c0 := h.st i hi
  have hii : (i : Int) < (W.ss.length : Int) := by omega
  have b0 : Below w.heap.size w ((w.alloc (.cells #[.int .i64 9, .string key, .string val] 27)).alloc (.cells #[.int .i64 0, .string ⟨#[]⟩, .int .i64 0] 30)) := ((Below.refl _ _).alloc (Nat.le_refl _) _).alloc (by simp) _
  have h0 := h.kept b0
  have X0 : RowTo ((w.alloc (.cells #[.int .i64 9, .string key, .string val] 27)).alloc (.cells #[.int .i64 0, .string ⟨#[]⟩, .int .i64 0] 30)) (w.heap.size + 1) 30 3 [.int .i64 0, .string ⟨#[]⟩, .int .i64 0] := by
    have := RowTo.whole (w.alloc (.cells #[.int .i64 9, .string key, .string val] 27)) #[.int .i64 0, .string ⟨#[]⟩, .int .i64 0] 30
    simpa using this
  have hzs : ((w.alloc (.cells #[.int .i64 9, .string key, .string val] 27)).alloc (.cells #[.int .i64 0, .string ⟨#[]⟩, .int .i64 0] 30)).heap.size = w.heap.size + 1 + 1 := by simp
  have hgr := h.rows.row.lt
  have hgg : ∀ i j, i < W.ss.length → j < 4 → w.heap.size + 1 ≠ G i j := fun i j hi hj => by have := (h.ls i j hi hj).row.lt; omega
  obtain ⟨r, hr⟩ : ∃ r, r = did1 W i 9 key val := ⟨_, rfl⟩
  rw [← hr]
  have hbs : base ≤ ((w.alloc (.cells #[.int .i64 9, .string key, .string val] 27)).alloc (.cells #[.int .i64 0, .string ⟨#[]⟩, .int .i64 0] 30)).heap.size := by omega
  have HC := Lib.hid (show ∀ (w9 : World), OwnD w9 X S gR cR G C W → base ≤ w9.heap.size → Calls Tryd.prog 44 #[.pointer (some ⟨S, i * 5 + 1, none⟩), .agg #[.int .i64 9, .string key, .string val], .int .i64 6] w9 (ExPost w9 base X S gR G W.ss.length r) from fun w9 h0 hbs => by
    rw [hr]
    have hrs := (pairsB_rising (hw.sess i hi).set).1
    rw [show did1 W i 9 key val = (if fndL (W.ss[i].li 0) key = false ∧ 6 ≤ (W.ss[i].li 0).length then (W, no' tFull) else (W.put i { W.ss[i] with set := insL W.ss[i].set key val }, ok')) by unfold did1; simp only [getD_at hi, plus_ins hrs]; rw [if_neg (fun hh => hst hh.1)]; simp [Sess.li]]
    exact keep_any base X S gR cR G C W i 0 9 _ h0 lo hz hbs hi (by omega) key val hkz hvz hrs _ rfl (fun k hk => by rcases j4 hk with rfl | rfl | rfl | rfl <;> rfl))
  have H0 := Lib.hid h0
  have HG2 := Lib.hid (show ∀ i j, i < W.ss.length → j < 4 → w.heap.size ≠ G i j from fun i j hi hj => by have := (h.ls i j hi hj).row.lt; omega)
  have H := Lib.hid h
  have HZ := Lib.hid hz
  have HW := Lib.hid hw
  have B0 := Lib.hid b0
  have HX0 := Lib.hid X0
  have HZS := Lib.hid hzs
  have HG := Lib.hid hgg
  have HR := Lib.hid hr
  clear h hz hw b0 X0 hzs hgg hr h0
  have e2 : (W.ss[i].st == 2) = false := beq_eq_false_iff_ne.2 hst
  · skip
    go_enter Tryd.func24, Tryd.ntmps24
    go_wp2_with fail
    have hsz0 := HZS.out
    have y0 : ((w.alloc (.cells #[.int .i64 9, .string key, .string val] 27)).alloc (.cells #[.int .i64 0, .string ⟨#[]⟩, .int .i64 0] 30)).cell? ⟨w.heap.size, 0, none⟩ = some (.int .i64 9) := by simp [go_sem]
    have y1 : ((w.alloc (.cells #[.int .i64 9, .string key, .string val] 27)).alloc (.cells #[.int .i64 0, .string ⟨#[]⟩, .int .i64 0] 30)).cell? ⟨w.heap.size, 1, none⟩ = some (.string key) := by simp [go_sem]
    have y2 : ((w.alloc (.cells #[.int .i64 9, .string key, .string val] 27)).alloc (.cells #[.int .i64 0, .string ⟨#[]⟩, .int .i64 0] 30)).cell? ⟨w.heap.size, 2, none⟩ = some (.string val) := by simp [go_sem]
    generalize hA : ((w.alloc (.cells #[.int .i64 9, .string key, .string val] 27)).alloc (.cells #[.int .i64 0, .string ⟨#[]⟩, .int .i64 0] 30)) = w8 at *
    have hw8 : w.heap.size < w8.heap.size := by omega
    have dS := Lib.hid (show w8.drew.cell? ⟨w.heap.size, 0, none⟩ = some (.int .i64 9) ∧ w8.drew.cell? ⟨w.heap.size, 1, none⟩ = some (.string key) ∧ w8.drew.cell? ⟨w.heap.size, 2, none⟩ = some (.string val) from ⟨y0, y1, y2⟩)
    go_region_held3 (fun wx => wx.cell? ⟨w.heap.size, 0, none⟩ = some (.int .i64 9) ∧ wx.cell? ⟨w.heap.size, 1, none⟩ = some (.string key) ∧ wx.cell? ⟨w.heap.size, 2, none⟩ = some (.string val))
      (first
        | with_reducible exact ⟨y0, y1, y2⟩
        | with_reducible exact dS.out
        | with_reducible exact ⟨cell_set3' z0 (by omega), cell_set3' z1 (by omega), cell_set3' z2 (by omega)⟩
        | with_reducible exact ⟨z0, z1, z2⟩)
      (first
        | (
          go_at_call 44
          refine (HC.out _ (by first | exact H0.out | exact H0.out.kept (Below.refl _ _).drew | exact H0.out.kept (below_drewN (Below.refl _ _) _)) (by first | exact hbs | assumption)).mono ?_
          rintro e wB ⟨rfl, hp1, hp2, hp3⟩
          have hpB : ExPost w8 base X S gR G W.ss.length r (.returned (ansV r.2.kind r.2.text)) wB := ⟨rfl, hp1, ⟨hp2.os, hp2.tape, hp2.output, hp2.size, hp2.block⟩, hp3⟩
          have hxB := hpB.2.2.2 w.heap.size hw8 (by omega) (by omega) (by omega) HG2.out
          have z0 := (World.cell?_of_block (a := ⟨w.heap.size, 0, none⟩) hxB).trans y0
          have z1 := (World.cell?_of_block (a := ⟨w.heap.size, 1, none⟩) hxB).trans y1
          have z2 := (World.cell?_of_block (a := ⟨w.heap.size, 2, none⟩) hxB).trans y2
          have RB := HX0.out.same (hpB.2.2.2 (w.heap.size + 1) (by omega) (by omega) (by omega) (by omega) HG.out)
          have r0 := RB.cell (j := 0) (by simp)
          have r1 := RB.cell (j := 1) (by simp)
          have r2 := RB.cell (j := 2) (by simp)
          have s0 := RB.frozen 0
          have s1 := RB.frozen 1
          have s2 := RB.frozen 2
          simp only [List.getElem_cons_zero, List.getElem_cons_succ] at r0 r1 r2
          unfold ansV))
    have HP := Lib.hid hpB
    have HRB := Lib.hid RB
    clear hpB hp1 hp2 hp3 hxB z0 z1 z2 RB
    go_wp2
    refine bodyPost_ret (v := .agg #[.int .i64 r.2.kind, .string r.2.text, .int .i64 0]) (by simp [results, Tryd.results24, go_sem, r0, r1, r2]) rfl ?_
    exact HP.out.laid B0.out hb (by omega) HRB.out _ _ _

set_option maxHeartbeats 2000000 in
theorem execute_prep (base X S gR cR : Nat) (G C : Nat → Nat → Nat) (W : Wd) (i : Nat) (key val : ByteArray) (w : World) (h : OwnD w X S gR cR G C W) (lo : LoD base X S gR G W.ss.length) (hw : WorldOk W) (hb : base ≤ w.heap.size) (hi : i < W.ss.length) (hkz : key.size ≤ 8) (hvz : val.size ≤ 60) (hst : W.ss[i].st ≠ 2) :
    Calls Tryd.prog 24 #[.pointer (some ⟨X, 0, none⟩), .int .i64 i, .agg #[.int .i64 11, .string key, .string val]] w (ExPost w base X S gR G W.ss.length (did1 W i 11 key val)) := by
  have hz := worldOk_sz hw
  have hXw := h.box.lt
  have hSw := h.blk.lt
  have x1 := h.box.cell (j := 1) (by simp)
  simp only [List.getElem_cons_zero, List.getElem_cons_succ] at x1
  unfold slc at x1
  have c0 := h.st i hi
  have hii : (i : Int) < (W.ss.length : Int) := by omega
  have b0 : Below w.heap.size w ((w.alloc (.cells #[.int .i64 11, .string key, .string val] 27)).alloc (.cells #[.int .i64 0, .string ⟨#[]⟩, .int .i64 0] 30)) := ((Below.refl _ _).alloc (Nat.le_refl _) _).alloc (by simp) _
  have h0 := h.kept b0
  have X0 : RowTo ((w.alloc (.cells #[.int .i64 11, .string key, .string val] 27)).alloc (.cells #[.int .i64 0, .string ⟨#[]⟩, .int .i64 0] 30)) (w.heap.size + 1) 30 3 [.int .i64 0, .string ⟨#[]⟩, .int .i64 0] := by
    have := RowTo.whole (w.alloc (.cells #[.int .i64 11, .string key, .string val] 27)) #[.int .i64 0, .string ⟨#[]⟩, .int .i64 0] 30
    simpa using this
  have hzs : ((w.alloc (.cells #[.int .i64 11, .string key, .string val] 27)).alloc (.cells #[.int .i64 0, .string ⟨#[]⟩, .int .i64 0] 30)).heap.size = w.heap.size + 1 + 1 := by simp
  have hgr := h.rows.row.lt
  have hgg : ∀ i j, i < W.ss.length → j < 4 → w.heap.size + 1 ≠ G i j := fun i j hi hj => by have := (h.ls i j hi hj).row.lt; omega
  obtain ⟨r, hr⟩ : ∃ r, r = did1 W i 11 key val := ⟨_, rfl⟩
  rw [← hr]
  have hbs : base ≤ ((w.alloc (.cells #[.int .i64 11, .string key, .string val] 27)).alloc (.cells #[.int .i64 0, .string ⟨#[]⟩, .int .i64 0] 30)).heap.size := by omega
  have HC := Lib.hid (show ∀ (w9 : World), OwnD w9 X S gR cR G C W → base ≤ w9.heap.size → Calls Tryd.prog 44 #[.pointer (some ⟨S, i * 5 + 2, none⟩), .agg #[.int .i64 11, .string key, .string val], .int .i64 6] w9 (ExPost w9 base X S gR G W.ss.length r) from fun w9 h0 hbs => by
    rw [hr]
    have hrs := (pairsB_rising (hw.sess i hi).prep).1
    rw [show did1 W i 11 key val = (if fndL (W.ss[i].li 1) key = false ∧ 6 ≤ (W.ss[i].li 1).length then (W, no' tFull) else (W.put i { W.ss[i] with prep := insL W.ss[i].prep key val }, ok')) by unfold did1; simp only [getD_at hi, plus_ins hrs]; rw [if_neg (fun hh => hst hh.1)]; simp [Sess.li]]
    exact keep_any base X S gR cR G C W i 1 11 _ h0 lo hz hbs hi (by omega) key val hkz hvz hrs _ rfl (fun k hk => by rcases j4 hk with rfl | rfl | rfl | rfl <;> rfl))
  have H0 := Lib.hid h0
  have HG2 := Lib.hid (show ∀ i j, i < W.ss.length → j < 4 → w.heap.size ≠ G i j from fun i j hi hj => by have := (h.ls i j hi hj).row.lt; omega)
  have H := Lib.hid h
  have HZ := Lib.hid hz
  have HW := Lib.hid hw
  have B0 := Lib.hid b0
  have HX0 := Lib.hid X0
  have HZS := Lib.hid hzs
  have HG := Lib.hid hgg
  have HR := Lib.hid hr
  clear h hz hw b0 X0 hzs hgg hr h0
  have e2 : (W.ss[i].st == 2) = false := beq_eq_false_iff_ne.2 hst
  · skip
    go_enter Tryd.func24, Tryd.ntmps24
    go_wp2_with fail
    have hsz0 := HZS.out
    have y0 : ((w.alloc (.cells #[.int .i64 11, .string key, .string val] 27)).alloc (.cells #[.int .i64 0, .string ⟨#[]⟩, .int .i64 0] 30)).cell? ⟨w.heap.size, 0, none⟩ = some (.int .i64 11) := by simp [go_sem]
    have y1 : ((w.alloc (.cells #[.int .i64 11, .string key, .string val] 27)).alloc (.cells #[.int .i64 0, .string ⟨#[]⟩, .int .i64 0] 30)).cell? ⟨w.heap.size, 1, none⟩ = some (.string key) := by simp [go_sem]
    have y2 : ((w.alloc (.cells #[.int .i64 11, .string key, .string val] 27)).alloc (.cells #[.int .i64 0, .string ⟨#[]⟩, .int .i64 0] 30)).cell? ⟨w.heap.size, 2, none⟩ = some (.string val) := by simp [go_sem]
    generalize hA : ((w.alloc (.cells #[.int .i64 11, .string key, .string val] 27)).alloc (.cells #[.int .i64 0, .string ⟨#[]⟩, .int .i64 0] 30)) = w8 at *
    have hw8 : w.heap.size < w8.heap.size := by omega
    have dS := Lib.hid (show w8.drew.cell? ⟨w.heap.size, 0, none⟩ = some (.int .i64 11) ∧ w8.drew.cell? ⟨w.heap.size, 1, none⟩ = some (.string key) ∧ w8.drew.cell? ⟨w.heap.size, 2, none⟩ = some (.string val) from ⟨y0, y1, y2⟩)
    go_region_held3 (fun wx => wx.cell? ⟨w.heap.size, 0, none⟩ = some (.int .i64 11) ∧ wx.cell? ⟨w.heap.size, 1, none⟩ = some (.string key) ∧ wx.cell? ⟨w.heap.size, 2, none⟩ = some (.string val))
      (first
        | with_reducible exact ⟨y0, y1, y2⟩
        | with_reducible exact dS.out
        | with_reducible exact ⟨cell_set3' z0 (by omega), cell_set3' z1 (by omega), cell_set3' z2 (by omega)⟩
        | with_reducible exact ⟨z0, z1, z2⟩)
      (first
        | (
          go_at_call 44
          refine (HC.out _ (by first | exact H0.out | exact H0.out.kept (Below.refl _ _).drew | exact H0.out.kept (below_drewN (Below.refl _ _) _)) (by first | exact hbs | assumption)).mono ?_
          rintro e wB ⟨rfl, hp1, hp2, hp3⟩
          have hpB : ExPost w8 base X S gR G W.ss.length r (.returned (ansV r.2.kind r.2.text)) wB := ⟨rfl, hp1, ⟨hp2.os, hp2.tape, hp2.output, hp2.size, hp2.block⟩, hp3⟩
          have hxB := hpB.2.2.2 w.heap.size hw8 (by omega) (by omega) (by omega) HG2.out
          have z0 := (World.cell?_of_block (a := ⟨w.heap.size, 0, none⟩) hxB).trans y0
          have z1 := (World.cell?_of_block (a := ⟨w.heap.size, 1, none⟩) hxB).trans y1
          have z2 := (World.cell?_of_block (a := ⟨w.heap.size, 2, none⟩) hxB).trans y2
          have RB := HX0.out.same (hpB.2.2.2 (w.heap.size + 1) (by omega) (by omega) (by omega) (by omega) HG.out)
          have r0 := RB.cell (j := 0) (by simp)
          have r1 := RB.cell (j := 1) (by simp)
          have r2 := RB.cell (j := 2) (by simp)
          have s0 := RB.frozen 0
          have s1 := RB.frozen 1
          have s2 := RB.frozen 2
          simp only [List.getElem_cons_zero, List.getElem_cons_succ] at r0 r1 r2
          unfold ansV))
    have HP := Lib.hid hpB
    have HRB := Lib.hid RB
    clear hpB hp1 hp2 hp3 hxB z0 z1 z2 RB
    go_wp2
    refine bodyPost_ret (v := .agg #[.int .i64 r.2.kind, .string r.2.text, .int .i64 0]) (by simp [results, Tryd.results24, go_sem, r0, r1, r2]) rfl ?_
    exact HP.out.laid B0.out hb (by omega) HRB.out _ _ _

end Go.Proofs.YtpbaobmegomfpabDoor

/-
  Walks of back.execute: Get and Read.
-/
namespace Go.Proofs.YtpbaobmegomfpabDoor
open Go.RowKit
set_option linter.unusedVariables false
set_option linter.unusedSimpArgs false
set_option maxRecDepth 100000
theorem cell_new1 {w : World} {o : Obj} {p : Addr} {u : Value} (hp : p.block < w.heap.size) (h : w.cell? p = some u) : (w.alloc o).cell? p = some u := (((Below.refl w.heap.size w).alloc (Nat.le_refl _) o).cell hp).trans h

set_option maxHeartbeats 2000000 in
theorem execute_get (base X S gR cR : Nat) (G C : Nat → Nat → Nat) (W : Wd) (i : Nat) (key val : ByteArray) (w : World) (h : OwnD w X S gR cR G C W) (lo : LoD base X S gR G W.ss.length) (hw : WorldOk W) (hb : base ≤ w.heap.size) (hi : i < W.ss.length) (hkz : key.size ≤ 8) (hvz : val.size ≤ 60) (hst : W.ss[i].st ≠ 2) :
    Calls Tryd.prog 24 #[.pointer (some ⟨X, 0, none⟩), .int .i64 i, .agg #[.int .i64 6, .string key, .string val]] w (ExPost w base X S gR G W.ss.length (did1 W i 6 key val)) := by
  have hz := worldOk_sz hw
  have hXw := h.box.lt
  have hSw := h.blk.lt
  have x1 := h.box.cell (j := 1) (by simp)
  simp only [List.getElem_cons_zero, List.getElem_cons_succ] at x1
  unfold slc at x1
  have c0 := h.st i hi
  have hii : (i : Int) < (W.ss.length : Int) := by omega
  have b0 : Below w.heap.size w ((w.alloc (.cells #[.int .i64 6, .string key, .string val] 27)).alloc (.cells #[.int .i64 0, .string ⟨#[]⟩, .int .i64 0] 30)) := ((Below.refl _ _).alloc (Nat.le_refl _) _).alloc (by simp) _
  have h0 := h.kept b0
  have X0 : RowTo ((w.alloc (.cells #[.int .i64 6, .string key, .string val] 27)).alloc (.cells #[.int .i64 0, .string ⟨#[]⟩, .int .i64 0] 30)) (w.heap.size + 1) 30 3 [.int .i64 0, .string ⟨#[]⟩, .int .i64 0] := by
    have := RowTo.whole (w.alloc (.cells #[.int .i64 6, .string key, .string val] 27)) #[.int .i64 0, .string ⟨#[]⟩, .int .i64 0] 30
    simpa using this
  have hzs : ((w.alloc (.cells #[.int .i64 6, .string key, .string val] 27)).alloc (.cells #[.int .i64 0, .string ⟨#[]⟩, .int .i64 0] 30)).heap.size = w.heap.size + 1 + 1 := by simp
  have hgr := h.rows.row.lt
  have hgg : ∀ i j, i < W.ss.length → j < 4 → w.heap.size + 1 ≠ G i j := fun i j hi hj => by have := (h.ls i j hi hj).row.lt; omega
  obtain ⟨r, hr⟩ : ∃ r, r = did1 W i 6 key val := ⟨_, rfl⟩
  rw [← hr]
  have hbs : base ≤ ((w.alloc (.cells #[.int .i64 6, .string key, .string val] 27)).alloc (.cells #[.int .i64 0, .string ⟨#[]⟩, .int .i64 0] 30)).heap.size := by omega
  have hd : r = (W, fnd' (findA [W.ss[i].set] key)) := by
    rw [hr]; unfold did1; simp only [getD_at hi]; rw [if_neg (fun hh => hst hh.1)]; simp only [findA]; simp
    cases atL W.ss[i].set key <;> rfl
  have hans : ansOf (findA [W.ss[i].set] key) = ansV r.2.kind r.2.text := by
    rw [hd]
    cases findA [W.ss[i].set] key <;> rfl
  have HC := Lib.hid (show ∀ (w9 : World) (b9 : Nat), b9 < w9.heap.size → w9.cell? ⟨b9, 0, none⟩ = some (.slice (some ⟨G i 0, 0, none⟩) W.ss[i].set.length (C i 0)) → Lst w9 w9.heap.size (.slice (some ⟨G i 0, 0, none⟩) W.ss[i].set.length (C i 0)) W.ss[i].set → Calls Tryd.prog 42 #[.string key, .slice (some ⟨b9, 0, none⟩) 1 1] w9 (fun e w' => e = .returned (ansV r.2.kind r.2.text) ∧ Below w9.heap.size w9 w') from fun w9 b9 hb9 c0 l0 => by
    rw [← hans]
    refine find_any key b9 [W.ss[i].set] (fun n => ([.slice (some ⟨G i 0, 0, none⟩) W.ss[i].set.length (C i 0)] : List Value).getD n (.int .i64 0)) w9 hb9 (by simp) (fun n hn => ?_)
    obtain rfl : n = 0 := by simp at hn; omega
    exact ⟨c0, l0, (pairsB_rising (hw.sess i hi).set).1⟩)
  have H0 := Lib.hid h0
  have HD := Lib.hid hd
  have L0 := Lib.hid (show Lst ((w.alloc (.cells #[.int .i64 6, .string key, .string val] 27)).alloc (.cells #[.int .i64 0, .string ⟨#[]⟩, .int .i64 0] 30)) ((w.alloc (.cells #[.int .i64 6, .string key, .string val] 27)).alloc (.cells #[.int .i64 0, .string ⟨#[]⟩, .int .i64 0] 30)).heap.size (.slice (some ⟨G i 0, 0, none⟩) W.ss[i].set.length (C i 0)) W.ss[i].set from h0.list hz hi (j := 0) (by omega))
  have H := Lib.hid h
  have HZ := Lib.hid hz
  have HW := Lib.hid hw
  have B0 := Lib.hid b0
  have HX0 := Lib.hid X0
  have HZS := Lib.hid hzs
  have HG := Lib.hid hgg
  have HR := Lib.hid hr
  clear h hz hw b0 X0 hzs hgg hr h0 hd hans
  have e2 : (W.ss[i].st == 2) = false := beq_eq_false_iff_ne.2 hst
  · skip
    go_enter Tryd.func24, Tryd.ntmps24
    go_wp2_with fail
    have hsz0 := HZS.out
    have y0 : ((w.alloc (.cells #[.int .i64 6, .string key, .string val] 27)).alloc (.cells #[.int .i64 0, .string ⟨#[]⟩, .int .i64 0] 30)).cell? ⟨w.heap.size, 1, none⟩ = some (.string key) := by simp [go_sem]
    have y1 : ((w.alloc (.cells #[.int .i64 6, .string key, .string val] 27)).alloc (.cells #[.int .i64 0, .string ⟨#[]⟩, .int .i64 0] 30)).cell? ⟨S, i * 5 + 1, none⟩ = some (.slice (some ⟨G i 0, 0, none⟩) W.ss[i].set.length (C i 0)) := H0.out.cs i 0 hi (by omega)
    generalize hA : ((w.alloc (.cells #[.int .i64 6, .string key, .string val] 27)).alloc (.cells #[.int .i64 0, .string ⟨#[]⟩, .int .i64 0] 30)) = w8 at *
    have hw8 : w.heap.size < w8.heap.size := by omega
    have hS8 : S < w8.heap.size := by omega
    have hX8 : X < w8.heap.size := by omega
    have dS := Lib.hid (show w8.drew.cell? ⟨w.heap.size, 1, none⟩ = some (.string key) ∧ w8.drew.cell? ⟨S, i * 5 + 1, none⟩ = some (.slice (some ⟨G i 0, 0, none⟩) W.ss[i].set.length (C i 0)) from ⟨y0, y1⟩)
    have dA := Lib.hid (show (w8.alloc (.cells #[.slice (some ⟨G i 0, 0, none⟩) W.ss[i].set.length (C i 0)] 22)).cell? ⟨w.heap.size, 1, none⟩ = some (.string key) ∧ (w8.alloc (.cells #[.slice (some ⟨G i 0, 0, none⟩) W.ss[i].set.length (C i 0)] 22)).cell? ⟨S, i * 5 + 1, none⟩ = some (.slice (some ⟨G i 0, 0, none⟩) W.ss[i].set.length (C i 0)) from ⟨cell_new1 hw8 y0, cell_new1 hS8 y1⟩)
    have dB := Lib.hid (show (w8.drew.alloc (.cells #[.slice (some ⟨G i 0, 0, none⟩) W.ss[i].set.length (C i 0)] 22)).cell? ⟨w.heap.size, 1, none⟩ = some (.string key) ∧ (w8.drew.alloc (.cells #[.slice (some ⟨G i 0, 0, none⟩) W.ss[i].set.length (C i 0)] 22)).cell? ⟨S, i * 5 + 1, none⟩ = some (.slice (some ⟨G i 0, 0, none⟩) W.ss[i].set.length (C i 0)) from ⟨cell_new1 (w := w8.drew) hw8 y0, cell_new1 (w := w8.drew) hS8 y1⟩)
    have dC := Lib.hid (show (w8.alloc (.cells #[.slice (some ⟨G i 0, 0, none⟩) W.ss[i].set.length (C i 0)] 22)).drew.cell? ⟨w.heap.size, 1, none⟩ = some (.string key) ∧ (w8.alloc (.cells #[.slice (some ⟨G i 0, 0, none⟩) W.ss[i].set.length (C i 0)] 22)).drew.cell? ⟨S, i * 5 + 1, none⟩ = some (.slice (some ⟨G i 0, 0, none⟩) W.ss[i].set.length (C i 0)) from ⟨cell_new1 (w := w8) hw8 y0, cell_new1 (w := w8) hS8 y1⟩)
    go_region_held3 (fun wx => wx.cell? ⟨w.heap.size, 1, none⟩ = some (.string key) ∧ wx.cell? ⟨S, i * 5 + 1, none⟩ = some (.slice (some ⟨G i 0, 0, none⟩) W.ss[i].set.length (C i 0)))
      (first
        | with_reducible exact ⟨y0, y1⟩
        | with_reducible exact dS.out
        | with_reducible exact dA.out
        | with_reducible exact dB.out
        | with_reducible exact dC.out
        | with_reducible exact ⟨cell_set3' z0 (by omega), cell_set3' z1 (by omega)⟩
        | with_reducible exact ⟨z0, z1⟩
        | (trace_state; fail))
      (first
        | (
          go_at_call 42
          refine (HC.out _ _ (by simp; omega) (by rw [← hsz0]; simp [go_sem]) (by first | exact (L0.out.step ((Below.refl _ _).alloc (Nat.le_refl _) _)) | exact (L0.out.step (((Below.refl _ _).drew).alloc (Nat.le_refl _) _)))).mono ?_
          rintro e wB ⟨rfl, hy⟩
          have kB : Below w8.heap.size w8 wB := ⟨hy.os, hy.tape, hy.output, by have := hy.size; simp at this; omega, fun b hb => (hy.block b (by simp; omega)).trans (Below.heap_alloc _ _ _ hb)⟩
          have z0 := (kB.cell (p := ⟨w.heap.size, 1, none⟩) hw8).trans y0
          have z1 := (kB.cell (p := ⟨S, i * 5 + 1, none⟩) hS8).trans y1
          have RB := HX0.out.below kB HX0.out.lt
          have r0 := RB.cell (j := 0) (by simp)
          have r1 := RB.cell (j := 1) (by simp)
          have r2 := RB.cell (j := 2) (by simp)
          have s0 := RB.frozen 0
          have s1 := RB.frozen 1
          have s2 := RB.frozen 2
          simp only [List.getElem_cons_zero, List.getElem_cons_succ] at r0 r1 r2
          unfold ansV))
    have HP := Lib.hid (show ExPost w8 base X S gR G W.ss.length r (.returned (ansV r.2.kind r.2.text)) wB by
      have e := HD.out
      rw [e]
      exact ExPost.same H0.out lo HZ.out hbs rfl kB)
    have HRB := Lib.hid RB
    clear kB hy RB z0 z1
    go_wp2
    refine bodyPost_ret (v := .agg #[.int .i64 r.2.kind, .string r.2.text, .int .i64 0]) (by simp [results, Tryd.results24, go_sem, r0, r1, r2]) rfl ?_
    exact HP.out.laid B0.out hb (by omega) HRB.out _ _ _

set_option maxHeartbeats 2000000 in
theorem execute_read (base X S gR cR : Nat) (G C : Nat → Nat → Nat) (W : Wd) (i : Nat) (key val : ByteArray) (w : World) (h : OwnD w X S gR cR G C W) (lo : LoD base X S gR G W.ss.length) (hw : WorldOk W) (hb : base ≤ w.heap.size) (hi : i < W.ss.length) (hkz : key.size ≤ 8) (hvz : val.size ≤ 60) (hst : W.ss[i].st ≠ 2) :
    Calls Tryd.prog 24 #[.pointer (some ⟨X, 0, none⟩), .int .i64 i, .agg #[.int .i64 7, .string key, .string val]] w (ExPost w base X S gR G W.ss.length (did1 W i 7 key val)) := by
  have hz := worldOk_sz hw
  have hXw := h.box.lt
  have hSw := h.blk.lt
  have x1 := h.box.cell (j := 1) (by simp)
  simp only [List.getElem_cons_zero, List.getElem_cons_succ] at x1
  unfold slc at x1
  have c0 := h.st i hi
  have hii : (i : Int) < (W.ss.length : Int) := by omega
  have b0 : Below w.heap.size w ((w.alloc (.cells #[.int .i64 7, .string key, .string val] 27)).alloc (.cells #[.int .i64 0, .string ⟨#[]⟩, .int .i64 0] 30)) := ((Below.refl _ _).alloc (Nat.le_refl _) _).alloc (by simp) _
  have h0 := h.kept b0
  have X0 : RowTo ((w.alloc (.cells #[.int .i64 7, .string key, .string val] 27)).alloc (.cells #[.int .i64 0, .string ⟨#[]⟩, .int .i64 0] 30)) (w.heap.size + 1) 30 3 [.int .i64 0, .string ⟨#[]⟩, .int .i64 0] := by
    have := RowTo.whole (w.alloc (.cells #[.int .i64 7, .string key, .string val] 27)) #[.int .i64 0, .string ⟨#[]⟩, .int .i64 0] 30
    simpa using this
  have hzs : ((w.alloc (.cells #[.int .i64 7, .string key, .string val] 27)).alloc (.cells #[.int .i64 0, .string ⟨#[]⟩, .int .i64 0] 30)).heap.size = w.heap.size + 1 + 1 := by simp
  have hgr := h.rows.row.lt
  have hgg : ∀ i j, i < W.ss.length → j < 4 → w.heap.size + 1 ≠ G i j := fun i j hi hj => by have := (h.ls i j hi hj).row.lt; omega
  obtain ⟨r, hr⟩ : ∃ r, r = did1 W i 7 key val := ⟨_, rfl⟩
  rw [← hr]
  have hbs : base ≤ ((w.alloc (.cells #[.int .i64 7, .string key, .string val] 27)).alloc (.cells #[.int .i64 0, .string ⟨#[]⟩, .int .i64 0] 30)).heap.size := by omega
  have hd : r = (W, fnd' (findA [W.ss[i].wr, W.rows] key)) := by
    rw [hr]; unfold did1; simp only [getD_at hi]; rw [if_neg (fun hh => hst hh.1)]; simp only [findA]; simp
    cases atL W.ss[i].wr key <;> cases atL W.rows key <;> rfl
  have hans : ansOf (findA [W.ss[i].wr, W.rows] key) = ansV r.2.kind r.2.text := by
    rw [hd]
    cases findA [W.ss[i].wr, W.rows] key <;> rfl
  have HC := Lib.hid (show ∀ (w9 : World) (b9 : Nat), b9 < w9.heap.size → w9.cell? ⟨b9, 0, none⟩ = some (.slice (some ⟨G i 3, 0, none⟩) W.ss[i].wr.length (C i 3)) → w9.cell? ⟨b9, 1, none⟩ = some (.slice (some ⟨gR, 0, none⟩) W.rows.length cR) → Lst w9 w9.heap.size (.slice (some ⟨G i 3, 0, none⟩) W.ss[i].wr.length (C i 3)) W.ss[i].wr → Lst w9 w9.heap.size (.slice (some ⟨gR, 0, none⟩) W.rows.length cR) W.rows → Calls Tryd.prog 42 #[.string key, .slice (some ⟨b9, 0, none⟩) 2 2] w9 (fun e w' => e = .returned (ansV r.2.kind r.2.text) ∧ Below w9.heap.size w9 w') from fun w9 b9 hb9 c0 c1 l0 l1 => by
    rw [← hans]
    refine find_any key b9 [W.ss[i].wr, W.rows] (fun n => ([.slice (some ⟨G i 3, 0, none⟩) W.ss[i].wr.length (C i 3), .slice (some ⟨gR, 0, none⟩) W.rows.length cR] : List Value).getD n (.int .i64 0)) w9 hb9 (by simp) (fun n hn => ?_)
    have hn2 : n < 2 := hn
    rcases Nat.lt_or_ge n 1 with h1 | h1
    · obtain rfl : n = 0 := by omega
      exact ⟨c0, l0, (pairsB_rising (hw.sess i hi).wr).1⟩
    · obtain rfl : n = 1 := by omega
      exact ⟨c1, l1, (pairsB_rising hw.rows).1⟩)
  have H0 := Lib.hid h0
  have HD := Lib.hid hd
  have L0 := Lib.hid (show Lst ((w.alloc (.cells #[.int .i64 7, .string key, .string val] 27)).alloc (.cells #[.int .i64 0, .string ⟨#[]⟩, .int .i64 0] 30)) ((w.alloc (.cells #[.int .i64 7, .string key, .string val] 27)).alloc (.cells #[.int .i64 0, .string ⟨#[]⟩, .int .i64 0] 30)).heap.size (.slice (some ⟨G i 3, 0, none⟩) W.ss[i].wr.length (C i 3)) W.ss[i].wr from h0.list hz hi (j := 3) (by omega))
  have L1 := Lib.hid (show Lst ((w.alloc (.cells #[.int .i64 7, .string key, .string val] 27)).alloc (.cells #[.int .i64 0, .string ⟨#[]⟩, .int .i64 0] 30)) ((w.alloc (.cells #[.int .i64 7, .string key, .string val] 27)).alloc (.cells #[.int .i64 0, .string ⟨#[]⟩, .int .i64 0] 30)).heap.size (.slice (some ⟨gR, 0, none⟩) W.rows.length cR) W.rows from (h0.wld hz).rows)
  have H := Lib.hid h
  have HZ := Lib.hid hz
  have HW := Lib.hid hw
  have B0 := Lib.hid b0
  have HX0 := Lib.hid X0
  have HZS := Lib.hid hzs
  have HG := Lib.hid hgg
  have HR := Lib.hid hr
  clear h hz hw b0 X0 hzs hgg hr h0 hd hans
  have e2 : (W.ss[i].st == 2) = false := beq_eq_false_iff_ne.2 hst
  · skip
    go_enter Tryd.func24, Tryd.ntmps24
    go_wp2_with fail
    have hsz0 := HZS.out
    have y0 : ((w.alloc (.cells #[.int .i64 7, .string key, .string val] 27)).alloc (.cells #[.int .i64 0, .string ⟨#[]⟩, .int .i64 0] 30)).cell? ⟨w.heap.size, 1, none⟩ = some (.string key) := by simp [go_sem]
    have y1 : ((w.alloc (.cells #[.int .i64 7, .string key, .string val] 27)).alloc (.cells #[.int .i64 0, .string ⟨#[]⟩, .int .i64 0] 30)).cell? ⟨S, i * 5 + 4, none⟩ = some (.slice (some ⟨G i 3, 0, none⟩) W.ss[i].wr.length (C i 3)) := H0.out.cs i 3 hi (by omega)
    have y2 : ((w.alloc (.cells #[.int .i64 7, .string key, .string val] 27)).alloc (.cells #[.int .i64 0, .string ⟨#[]⟩, .int .i64 0] 30)).cell? ⟨X, 0, none⟩ = some (.slice (some ⟨gR, 0, none⟩) W.rows.length cR) := H0.out.box.cell (j := 0) (by simp)
    generalize hA : ((w.alloc (.cells #[.int .i64 7, .string key, .string val] 27)).alloc (.cells #[.int .i64 0, .string ⟨#[]⟩, .int .i64 0] 30)) = w8 at *
    have hw8 : w.heap.size < w8.heap.size := by omega
    have hS8 : S < w8.heap.size := by omega
    have hX8 : X < w8.heap.size := by omega
    have dS := Lib.hid (show w8.drew.cell? ⟨w.heap.size, 1, none⟩ = some (.string key) ∧ w8.drew.cell? ⟨S, i * 5 + 4, none⟩ = some (.slice (some ⟨G i 3, 0, none⟩) W.ss[i].wr.length (C i 3)) ∧ w8.drew.cell? ⟨X, 0, none⟩ = some (.slice (some ⟨gR, 0, none⟩) W.rows.length cR) from ⟨y0, y1, y2⟩)
    have dA := Lib.hid (show (w8.alloc (.cells #[.slice (some ⟨G i 3, 0, none⟩) W.ss[i].wr.length (C i 3), .slice (some ⟨gR, 0, none⟩) W.rows.length cR] 22)).cell? ⟨w.heap.size, 1, none⟩ = some (.string key) ∧ (w8.alloc (.cells #[.slice (some ⟨G i 3, 0, none⟩) W.ss[i].wr.length (C i 3), .slice (some ⟨gR, 0, none⟩) W.rows.length cR] 22)).cell? ⟨S, i * 5 + 4, none⟩ = some (.slice (some ⟨G i 3, 0, none⟩) W.ss[i].wr.length (C i 3)) ∧ (w8.alloc (.cells #[.slice (some ⟨G i 3, 0, none⟩) W.ss[i].wr.length (C i 3), .slice (some ⟨gR, 0, none⟩) W.rows.length cR] 22)).cell? ⟨X, 0, none⟩ = some (.slice (some ⟨gR, 0, none⟩) W.rows.length cR) from ⟨cell_new1 hw8 y0, cell_new1 hS8 y1, cell_new1 hX8 y2⟩)
    have dB := Lib.hid (show (w8.drew.alloc (.cells #[.slice (some ⟨G i 3, 0, none⟩) W.ss[i].wr.length (C i 3), .slice (some ⟨gR, 0, none⟩) W.rows.length cR] 22)).cell? ⟨w.heap.size, 1, none⟩ = some (.string key) ∧ (w8.drew.alloc (.cells #[.slice (some ⟨G i 3, 0, none⟩) W.ss[i].wr.length (C i 3), .slice (some ⟨gR, 0, none⟩) W.rows.length cR] 22)).cell? ⟨S, i * 5 + 4, none⟩ = some (.slice (some ⟨G i 3, 0, none⟩) W.ss[i].wr.length (C i 3)) ∧ (w8.drew.alloc (.cells #[.slice (some ⟨G i 3, 0, none⟩) W.ss[i].wr.length (C i 3), .slice (some ⟨gR, 0, none⟩) W.rows.length cR] 22)).cell? ⟨X, 0, none⟩ = some (.slice (some ⟨gR, 0, none⟩) W.rows.length cR) from ⟨cell_new1 (w := w8.drew) hw8 y0, cell_new1 (w := w8.drew) hS8 y1, cell_new1 (w := w8.drew) hX8 y2⟩)
    have dC := Lib.hid (show (w8.alloc (.cells #[.slice (some ⟨G i 3, 0, none⟩) W.ss[i].wr.length (C i 3), .slice (some ⟨gR, 0, none⟩) W.rows.length cR] 22)).drew.cell? ⟨w.heap.size, 1, none⟩ = some (.string key) ∧ (w8.alloc (.cells #[.slice (some ⟨G i 3, 0, none⟩) W.ss[i].wr.length (C i 3), .slice (some ⟨gR, 0, none⟩) W.rows.length cR] 22)).drew.cell? ⟨S, i * 5 + 4, none⟩ = some (.slice (some ⟨G i 3, 0, none⟩) W.ss[i].wr.length (C i 3)) ∧ (w8.alloc (.cells #[.slice (some ⟨G i 3, 0, none⟩) W.ss[i].wr.length (C i 3), .slice (some ⟨gR, 0, none⟩) W.rows.length cR] 22)).drew.cell? ⟨X, 0, none⟩ = some (.slice (some ⟨gR, 0, none⟩) W.rows.length cR) from ⟨cell_new1 (w := w8) hw8 y0, cell_new1 (w := w8) hS8 y1, cell_new1 (w := w8) hX8 y2⟩)
    go_region_held3 (fun wx => wx.cell? ⟨w.heap.size, 1, none⟩ = some (.string key) ∧ wx.cell? ⟨S, i * 5 + 4, none⟩ = some (.slice (some ⟨G i 3, 0, none⟩) W.ss[i].wr.length (C i 3)) ∧ wx.cell? ⟨X, 0, none⟩ = some (.slice (some ⟨gR, 0, none⟩) W.rows.length cR))
      (first
        | with_reducible exact ⟨y0, y1, y2⟩
        | with_reducible exact dS.out
        | with_reducible exact dA.out
        | with_reducible exact dB.out
        | with_reducible exact dC.out
        | with_reducible exact ⟨cell_set3' z0 (by omega), cell_set3' z1 (by omega), cell_set3' z2 (by omega)⟩
        | with_reducible exact ⟨z0, z1, z2⟩
        | (trace_state; fail))
      (first
        | (
          go_at_call 42
          refine (HC.out _ _ (by simp; omega) (by rw [← hsz0]; simp [go_sem]) (by rw [← hsz0]; simp [go_sem]) (by first | exact (L0.out.step ((Below.refl _ _).alloc (Nat.le_refl _) _)) | exact (L0.out.step (((Below.refl _ _).drew).alloc (Nat.le_refl _) _))) (by first | exact (L1.out.step ((Below.refl _ _).alloc (Nat.le_refl _) _)) | exact (L1.out.step (((Below.refl _ _).drew).alloc (Nat.le_refl _) _)))).mono ?_
          rintro e wB ⟨rfl, hy⟩
          have kB : Below w8.heap.size w8 wB := ⟨hy.os, hy.tape, hy.output, by have := hy.size; simp at this; omega, fun b hb => (hy.block b (by simp; omega)).trans (Below.heap_alloc _ _ _ hb)⟩
          have z0 := (kB.cell (p := ⟨w.heap.size, 1, none⟩) hw8).trans y0
          have z1 := (kB.cell (p := ⟨S, i * 5 + 4, none⟩) hS8).trans y1
          have z2 := (kB.cell (p := ⟨X, 0, none⟩) hX8).trans y2
          have RB := HX0.out.below kB HX0.out.lt
          have r0 := RB.cell (j := 0) (by simp)
          have r1 := RB.cell (j := 1) (by simp)
          have r2 := RB.cell (j := 2) (by simp)
          have s0 := RB.frozen 0
          have s1 := RB.frozen 1
          have s2 := RB.frozen 2
          simp only [List.getElem_cons_zero, List.getElem_cons_succ] at r0 r1 r2
          unfold ansV))
    have HP := Lib.hid (show ExPost w8 base X S gR G W.ss.length r (.returned (ansV r.2.kind r.2.text)) wB by
      have e := HD.out
      rw [e]
      exact ExPost.same H0.out lo HZ.out hbs rfl kB)
    have HRB := Lib.hid RB
    clear kB hy RB z0 z1 z2
    go_wp2
    refine bodyPost_ret (v := .agg #[.int .i64 r.2.kind, .string r.2.text, .int .i64 0]) (by simp [results, Tryd.results24, go_sem, r0, r1, r2]) rfl ?_
    exact HP.out.laid B0.out hb (by omega) HRB.out _ _ _

end Go.Proofs.YtpbaobmegomfpabDoor

/-
  back.execute, every kind but Exec.
-/
namespace Go.Proofs.YtpbaobmegomfpabDoor
open Go.RowKit
set_option linter.unusedVariables false

theorem execute_plain (base X S gR cR : Nat) (G C : Nat → Nat → Nat) (W : Wd) (i : Nat) (k : Int) (key val : ByteArray) (w : World) (h : OwnD w X S gR cR G C W) (lo : LoD base X S gR G W.ss.length) (hw : WorldOk W) (hb : base ≤ w.heap.size) (hi : i < W.ss.length) (hkz : key.size ≤ 8) (hvz : val.size ≤ 60) (h1 : 1 ≤ k) (h2 : k ≤ 11) (h8 : k ≠ 8) :
    Calls Tryd.prog 24 #[.pointer (some ⟨X, 0, none⟩), .int .i64 i, .agg #[.int .i64 k, .string key, .string val]] w (ExPost w base X S gR G W.ss.length (did1 W i k key val)) := by
  by_cases hk : k = 2 ∨ k = 3
  · rcases hk with rfl | rfl
    · exact execute_commit base X S gR cR G C W i key val w h lo hw hb hi hkz hvz
    · exact execute_rollback base X S gR cR G C W i key val w h lo hw hb hi hkz hvz
  by_cases hst : W.ss[i].st = 2
  · exact execute_failed base X S gR cR G C W i k key val w h lo hw hb hi hkz hvz hst hk
  obtain rfl | rfl | rfl | rfl | rfl | rfl | rfl | rfl : k = 1 ∨ k = 4 ∨ k = 5 ∨ k = 6 ∨ k = 7 ∨ k = 9 ∨ k = 10 ∨ k = 11 := by omega
  · exact execute_begin base X S gR cR G C W i key val w h lo hw hb hi hkz hvz hst
  · exact execute_reset base X S gR cR G C W i key val w h lo hw hb hi hkz hvz hst
  · exact execute_fail base X S gR cR G C W i key val w h lo hw hb hi hkz hvz hst
  · exact execute_get base X S gR cR G C W i key val w h lo hw hb hi hkz hvz hst
  · exact execute_read base X S gR cR G C W i key val w h lo hw hb hi hkz hvz hst
  · exact execute_set base X S gR cR G C W i key val w h lo hw hb hi hkz hvz hst
  · exact execute_put base X S gR cR G C W i key val w h lo hw hb hi hkz hvz hst
  · exact execute_prep base X S gR cR G C W i key val w h lo hw hb hi hkz hvz hst

end Go.Proofs.YtpbaobmegomfpabDoor

/-
  Walks of names: say.bounded, its closure, say.Name; the reference's In and NameMay.
-/
namespace Go.Proofs.YtpbaobmegomfpabDoor
open Go.RowKit
set_option linter.unusedVariables false
set_option maxRecDepth 100000

set_option maxHeartbeats 400000 in
theorem in_any (n a b : Int) (w : World) :
    Calls Tryd.prog 27 #[.int .i64 n, .int .i64 a, .int .i64 b] w fun e w' => e = .returned (.bool (inB a n b)) ∧ w = w' := by
  by_cases h1 : a ≤ n
  · go_enter Tryd.func27, Tryd.ntmps27
    go_wp2
    go_ret
    exact ⟨by simp [inB, h1], rfl⟩
  · go_enter Tryd.func27, Tryd.ntmps27
    go_wp2
    go_ret
    exact ⟨by simp [inB]; omega, rfl⟩

theorem in_yes (n a b : Int) (w : World) (h : a ≤ n ∧ n ≤ b) :
    Calls Tryd.prog 27 #[.int .i64 n, .int .i64 a, .int .i64 b] w fun e w' => e = .returned (.bool true) ∧ w = w' :=
  (in_any n a b w).mono fun _ _ ⟨he, hw⟩ => ⟨by rw [he, inB_yes h], hw⟩
theorem in_no (n a b : Int) (w : World) (h : ¬ (a ≤ n ∧ n ≤ b)) :
    Calls Tryd.prog 27 #[.int .i64 n, .int .i64 a, .int .i64 b] w fun e w' => e = .returned (.bool false) ∧ w = w' :=
  (in_any n a b w).mono fun _ _ ⟨he, hw⟩ => ⟨by rw [he, inB_no h], hw⟩

set_option maxHeartbeats 400000 in
theorem bounded_any (lo hi lim : Int) (w : World) :
    Calls Tryd.prog 86 #[.int .u8 lo, .int .u8 hi, .int .i64 lim] w fun e w' => e = .returned (.func (.func 96) #[] #[.pointer (some ⟨w.heap.size + 1 + 1, 0, none⟩), .pointer (some ⟨w.heap.size, 0, none⟩), .pointer (some ⟨w.heap.size + 1, 0, none⟩)]) ∧
      ((w.alloc (.cells #[.int .u8 lo] 5)).alloc (.cells #[.int .u8 hi] 5)).alloc (.cells #[.int .i64 lim] 3) = w' := by
  go_enter Tryd.func86, Tryd.ntmps86
  go_wp2
  go_ret
  exact ⟨rfl, rfl⟩

set_option maxHeartbeats 400000 in
theorem bounded1_any (s : ByteArray) (lo hi lim : Nat) (p1 p2 p3 : Addr) (w : World) (hs : s.size ≤ maxLen) (h1 : w.cell? p1 = some (.int .i64 lim)) (h2 : w.cell? p2 = some (.int .u8 lo)) (h3 : w.cell? p3 = some (.int .u8 hi)) :
    Calls Tryd.prog 96 #[.string s, .pointer (some p1), .pointer (some p2), .pointer (some p3)] w fun e w' => e = .returned (.bool (bndB lo hi lim s)) ∧ ∃ n, w' = w.drewN n := by
  unfold maxLen at hs
  by_cases h0 : s.size = 0
  · have hb := Lib.hid (bndB_short (lo := lo) (hi := hi) (lim := lim) (.inl h0))
    go_enter Tryd.func96, Tryd.ntmps96
    go_wp2
    go_ret
    exact ⟨by rw [hb.out]; rfl, 0, rfl⟩
  have hz : ((s.size : Int) == 0) = false := beq_eq_false_iff_ne.2 (by omega)
  by_cases hl : lim < s.size
  · have hb := Lib.hid (bndB_short (lo := lo) (hi := hi) (lim := lim) (.inr hl))
    go_enter Tryd.func96, Tryd.ntmps96
    go_wp2
    go_ret
    exact ⟨by rw [hb.out]; rfl, 0, rfl⟩
  have hl' : decide (lim < s.size) = false := decide_eq_false hl
  go_enter Tryd.func96, Tryd.ntmps96
  go_wp2
  go_loopw [18] (fun c w' => ∃ k : Nat, k ≤ s.size ∧ c = .int .i64 k ∧ Hid (∀ j (hj : j < s.size), j < k → lo ≤ s[j].toNat ∧ s[j].toNat ≤ hi) ∧ ∃ n, w' = w.drewN n) (fun c _ => s.size - (intOf c).toNat)
  case atStart => exact ⟨0, Nat.zero_le _, rfl, fun _ _ h => absurd h (Nat.not_lt_zero _), 0, rfl⟩
  case round =>
    obtain ⟨k, hk, rfl, hall, n, rfl⟩ := hrel
    by_cases hlt : k < s.size
    · by_cases g1 : s[k].toNat < lo
      · have hb := Lib.hid (bndB_bad (lo := lo) (hi := hi) (lim := lim) hlt (.inl g1))
        go_wp2
        go_quiet (fail)
        go_wp2
        go_ret
        exact ⟨by rw [hb.out]; rfl, n + nq, by rw [World.drewN_drewN]⟩
      · by_cases g2 : hi < s[k].toNat
        · have hb := Lib.hid (bndB_bad (lo := lo) (hi := hi) (lim := lim) hlt (.inr g2))
          have g1' : decide (s[k].toNat < lo) = false := decide_eq_false g1
          go_wp2
          go_quiet (fail)
          go_wp2
          go_ret
          exact ⟨by rw [hb.out]; rfl, n + nq, by rw [World.drewN_drewN]⟩
        · have g1' : decide (s[k].toNat < lo) = false := decide_eq_false g1
          have g2' : decide (hi < s[k].toNat) = false := decide_eq_false g2
          go_wp2
          go_quiet (fail)
          go_wp2
          go_roundw
          case rel =>
            refine ⟨k + 1, by omega, by go_num, fun j hj hjk => ?_, n + nq, rfl⟩
            by_cases e : j = k
            · subst e; omega
            · exact hall.out j hj (by omega)
          case measure => simp [intOf]; omega
    · have hb := Lib.hid (bndB_good (lo := lo) (hi := hi) (lim := lim) (s := s) (by omega) (by omega) (fun j hj => hall.out j hj (by omega)))
      go_wp2
      go_ret
      exact ⟨by rw [hb.out]; rfl, n, rfl⟩

set_option maxHeartbeats 400000 in
theorem name_any (s : ByteArray) (w : World) (hs : s.size ≤ maxLen) :
    Calls Tryd.prog 74 #[.string s] w fun e w' => e = .returned (.bool (bndB 97 122 8 s)) ∧ Below w.heap.size w w' := by
  go_enter Tryd.func74, Tryd.ntmps74
  go_wp2_with fail
  refine (bounded_any 97 122 8 _).mono ?_
  rintro e w' ⟨rfl, rfl⟩
  go_wp2_with fail
  refine (bounded1_any s 97 122 8 _ _ _ _ hs (by go_simp) (by go_simp) (by go_simp)).mono ?_
  rintro e w' ⟨rfl, n, rfl⟩
  go_wp2
  go_ret
  exact ⟨rfl, below_drewN ((((Below.refl _ _).alloc (Nat.le_refl _) _).alloc (by simp) _).alloc (by simp; omega) _) n⟩

set_option maxHeartbeats 400000 in
theorem nameMay_any (s : ByteArray) (w : World) (hs : s.size ≤ maxLen) :
    Calls Tryd.prog 50 #[.string s] w fun e w' => e = .returned (.bool (bndB 97 122 8 s)) ∧ w = w' := by
  unfold maxLen at hs
  go_enter Tryd.func50, Tryd.ntmps50
  go_wp2
  go_loop [3] (fun c => ∃ k : Nat, k ≤ s.size ∧ c = .int .i64 k ∧ Hid (∀ j (hj : j < s.size), j < k → 97 ≤ s[j].toNat ∧ s[j].toNat ≤ 122)) (fun c => s.size - (intOf c).toNat)
  case atStart => exact ⟨0, Nat.zero_le _, rfl, fun _ _ h => absurd h (Nat.not_lt_zero _)⟩
  case round =>
    obtain ⟨k, hk, rfl, hall⟩ := hrel
    by_cases hlt : k < s.size
    · have hby : s[k].toNat < 256 := s[k].toNat_lt
      by_cases g : 97 ≤ s[k].toNat ∧ s[k].toNat ≤ 122
      · obtain ⟨g1, g2⟩ := g
        go_wp2_with (go_at_call 27; refine (in_yes _ _ _ _ (by omega)).mono ?_; rintro e w' ⟨rfl, rfl⟩)
        go_round
        case rel =>
          refine ⟨k + 1, by omega, by go_num, fun j hj hjk => ?_⟩
          by_cases e : j = k
          · subst e; omega
          · exact hall.out j hj (by omega)
        case measure => simp [intOf]; omega
      · have hb := Lib.hid (bndB_bad (lo := 97) (hi := 122) (lim := 8) hlt (by omega))
        have hg := Lib.hid g
        clear g
        go_wp2_with (go_at_call 27; refine (in_no _ _ _ _ (by have := hg.out; omega)).mono ?_; rintro e w' ⟨rfl, rfl⟩)
        go_ret
        exact ⟨by rw [hb.out]; rfl, rfl⟩
    · have hb : Hid (bndB 97 122 8 s = inB 1 s.size 8) := bndB_len hall.out (by omega)
      go_wp2_with (go_at_call 27; refine (in_any _ _ _ _).mono ?_; rintro e w' ⟨rfl, rfl⟩)
      go_ret
      exact ⟨by rw [hb.out]; rfl, rfl⟩

end Go.Proofs.YtpbaobmegomfpabDoor

/-
  Walks of values: say.isValue; the reference's valueMay.
-/
namespace Go.Proofs.YtpbaobmegomfpabDoor
open Go.RowKit
set_option linter.unusedVariables false
set_option maxRecDepth 100000

set_option maxHeartbeats 400000 in
theorem isValue_any (s : ByteArray) (w : World) (hs : s.size ≤ maxLen) :
    Calls Tryd.prog 87 #[.string s] w fun e w' => e = .returned (.bool (bndB 33 126 20 s)) ∧ Below w.heap.size w w' := by
  go_enter Tryd.func87, Tryd.ntmps87
  go_wp2_with fail
  refine (bounded_any 33 126 20 _).mono ?_
  rintro e w' ⟨rfl, rfl⟩
  go_wp2_with fail
  refine (bounded1_any s 33 126 20 _ _ _ _ hs (by go_simp) (by go_simp) (by go_simp)).mono ?_
  rintro e w' ⟨rfl, n, rfl⟩
  go_wp2
  go_ret
  exact ⟨rfl, below_drewN ((((Below.refl _ _).alloc (Nat.le_refl _) _).alloc (by simp) _).alloc (by simp; omega) _) n⟩

set_option maxHeartbeats 400000 in
theorem valueMay_any (s : ByteArray) (w : World) (hs : s.size ≤ maxLen) :
    Calls Tryd.prog 51 #[.string s] w fun e w' => e = .returned (.bool (bndB 33 126 20 s)) ∧ w = w' := by
  unfold maxLen at hs
  go_enter Tryd.func51, Tryd.ntmps51
  go_wp2
  go_loop [3] (fun c => ∃ k : Nat, k ≤ s.size ∧ c = .int .i64 k ∧ Hid (∀ j (hj : j < s.size), j < k → 33 ≤ s[j].toNat ∧ s[j].toNat ≤ 126)) (fun c => s.size - (intOf c).toNat)
  case atStart => exact ⟨0, Nat.zero_le _, rfl, fun _ _ h => absurd h (Nat.not_lt_zero _)⟩
  case round =>
    obtain ⟨k, hk, rfl, hall⟩ := hrel
    by_cases hlt : k < s.size
    · have hby : s[k].toNat < 256 := s[k].toNat_lt
      by_cases g : 33 ≤ s[k].toNat ∧ s[k].toNat ≤ 126
      · obtain ⟨g1, g2⟩ := g
        go_wp2_with (go_at_call 27; refine (in_yes _ _ _ _ (by omega)).mono ?_; rintro e w' ⟨rfl, rfl⟩)
        go_round
        case rel =>
          refine ⟨k + 1, by omega, by go_num, fun j hj hjk => ?_⟩
          by_cases e : j = k
          · subst e; omega
          · exact hall.out j hj (by omega)
        case measure => simp [intOf]; omega
      · have hb := Lib.hid (bndB_bad (lo := 33) (hi := 126) (lim := 20) hlt (by omega))
        have hg := Lib.hid g
        clear g
        go_wp2_with (go_at_call 27; refine (in_no _ _ _ _ (by have := hg.out; omega)).mono ?_; rintro e w' ⟨rfl, rfl⟩)
        go_ret
        exact ⟨by rw [hb.out]; rfl, rfl⟩
    · have hb : Hid (bndB 33 126 20 s = inB 1 s.size 20) := bndB_len hall.out (by omega)
      go_wp2_with (go_at_call 27; refine (in_any _ _ _ _).mono ?_; rintro e w' ⟨rfl, rfl⟩)
      go_ret
      exact ⟨by rw [hb.out]; rfl, rfl⟩

end Go.Proofs.YtpbaobmegomfpabDoor

/-
  Walks of the texts of statements: strings.Cut at a blank, say.kindOf; the reference's upTo and wordOf.
-/
namespace Go.Proofs.YtpbaobmegomfpabDoor
open Go.RowKit
set_option linter.unusedVariables false
set_option maxRecDepth 100000

/-- the table of the words -/
structure Words (w : World) : Prop where
  room : 0 < w.heap.size
  cell : ∀ k, k ≤ 11 → w.cell? ⟨0, k, none⟩ = some (.string (wordAt k))
theorem Words.below {w w' : World} (h : Words w) (hb : Below w.heap.size w w') : Words w' :=
  ⟨Nat.lt_of_lt_of_le h.room hb.size, fun k hk => (hb.cell (p := ⟨0, k, none⟩) h.room).trans (h.cell k hk)⟩
theorem Words.alloc {w : World} (h : Words w) (o : Obj) : Words (w.alloc o) := h.below ((Below.refl _ _).alloc (Nat.le_refl _) _)
theorem Words.drewN {w : World} (h : Words w) (n : Nat) : Words (w.drewN n) := h.below (below_drewN (Below.refl _ _) n)
theorem bel_trans {a b c : World} (h : Below a.heap.size a b) (k : Below b.heap.size b c) : Below a.heap.size a c := h.trans (k.mono h.size)

set_option maxHeartbeats 400000 in
theorem indexByte_any (s : ByteArray) (w : World) :
    Calls Tryd.prog 92 #[.string s, .int .u8 32] w fun e w' => e = .returned (.int .i64 (Lib.indexByte s.data.toList 32)) ∧ w = w' := by
  go_enter Tryd.func92, Tryd.ntmps92
  go_wp2
  rw [run_callFunc_extern Tryd.func98 (by kernel_rfl) (by kernel_rfl) (by kernel_rfl) (e := Extern.BytealgIndexByte.indexByte) (by kernel_rfl), Lib.run_indexByteString]
  simp only [Result.andThen]
  rw [Oper.upon_value]
  go_wp2
  go_ret
  exact ⟨rfl, rfl⟩

set_option maxHeartbeats 400000 in
theorem index_any (s : ByteArray) (w : World) (hs : s.size ≤ maxLen) :
    Calls Tryd.prog 85 #[.string s, .string ⟨#[32]⟩] w fun e w' => e = .returned (.int .i64 (Lib.indexByte s.data.toList 32)) ∧ w = w' := by
  unfold maxLen at hs
  go_enter Tryd.func85, Tryd.ntmps85
  go_wp2_with (go_at_call 92; refine (indexByte_any s _).mono ?_; rintro e w' ⟨rfl, rfl⟩)
  · have h : ([32] == s.toList) = true := by assumption
    have e : s.data.toList = [32] := by rw [← Lib.toList_data]; exact (beq_iff_eq.1 h).symm
    go_ret
    exact ⟨by rw [e]; rfl, rfl⟩
  · go_ret
    exact ⟨rfl, rfl⟩

set_option maxHeartbeats 400000 in
theorem sliteCut_any (s : ByteArray) (w : World) (hs : s.size ≤ maxLen) :
    Calls Tryd.prog 73 #[.string s, .string ⟨#[32]⟩] w fun e w' => e = .returned (.tuple #[.string (cutA s), .string (cutB s), .bool (cutF s)]) ∧ ∃ n, w' = w.drewN n := by
  have hix := cutI_index s
  have hle := cutI_le s
  by_cases hf : cutI s < s.size
  · have hF : cutF s = true := decide_eq_true hf
    rw [hF, if_pos rfl] at hix
    rw [hF]
    have hI := Lib.hid hix
    clear hix hF
    have hA := Lib.hid (show cutA s = s.extract 0 (cutI s) from rfl)
    have hB := Lib.hid (show cutB s = s.extract (cutI s + 1) s.size from rfl)
    generalize cutA s = A at hA ⊢
    generalize cutB s = B at hB ⊢
    generalize cutI s = i at *
    unfold maxLen at hs
    have c1 : (0 : Int) ≤ (i : Int) := by omega
    have c2 : (i : Int) ≤ (s.size : Int) := by omega
    have c3 : (0 : Int) ≤ (i : Int) + 1 := by omega
    have c4 : (i : Int) + 1 ≤ (s.size : Int) := by omega
    have c5 : IntKind.i64.wrap ((i : Int) + 1) = (i : Int) + 1 := IntWalk.i64_in _ (by omega)
    have c6 : ((i : Int) + 1).toNat = i + 1 := by omega
    go_enter Tryd.func73, Tryd.ntmps73
    go_wp2_with (go_at_call 85; refine (index_any s _ (by unfold maxLen; omega)).mono ?_; rw [hI.out]; rintro e w' ⟨rfl, rfl⟩)
    go_quiet (fail)
    go_wp2
    go_ret3
    exact ⟨by rw [hA.out, hB.out]; rfl, nq, rfl⟩
  · have hF : cutF s = false := decide_eq_false hf
    have he : cutI s = s.size := by omega
    rw [hF, if_neg (by decide)] at hix
    rw [hF, cutA_all he, cutB_none he]
    have hI := Lib.hid hix
    clear hix hF he hf
    go_enter Tryd.func73, Tryd.ntmps73
    go_wp2_with (go_at_call 85; refine (index_any s _ hs).mono ?_; rw [hI.out]; rintro e w' ⟨rfl, rfl⟩)
    go_ret3
    exact ⟨rfl, 0, rfl⟩

theorem cut_any (s : ByteArray) (w : World) (hs : s.size ≤ maxLen) :
    Calls Tryd.prog 56 #[.string s, .string ⟨#[32]⟩] w fun e w' => e = .returned (.tuple #[.string (cutA s), .string (cutB s), .bool (cutF s)]) ∧ ∃ n, w' = w.drewN n := by
  go_enter Tryd.func56, Tryd.ntmps56
  go_wp2_with fail
  refine (sliteCut_any s _ hs).mono ?_
  rintro e w' ⟨rfl, n, rfl⟩
  go_wp2
  go_ret3
  exact ⟨rfl, n, rfl⟩

set_option maxHeartbeats 400000 in
theorem upTo_any (s : ByteArray) (w : World) (hs : s.size ≤ maxLen) :
    Calls Tryd.prog 65 #[.string s] w fun e w' => e = .returned (.tuple #[.string (cutA s), .string (cutB s), .bool (cutF s)]) ∧ ∃ n, w' = w.drewN n := by
  unfold maxLen at hs
  go_enter Tryd.func65, Tryd.ntmps65
  go_wp2
  go_loop [5] (fun c => ∃ k : Nat, k ≤ s.size ∧ c = .int .i64 k ∧ Hid (∀ j (hj : j < s.size), j < k → s[j] ≠ 32)) (fun c => s.size - (intOf c).toNat)
  case atStart => exact ⟨0, Nat.zero_le _, rfl, fun _ _ h => absurd h (Nat.not_lt_zero _)⟩
  case round =>
    obtain ⟨k, hk, rfl, hall⟩ := hrel
    by_cases hlt : k < s.size
    · have hby : s[k].toNat < 256 := s[k].toNat_lt
      by_cases g : s[k] = 32
      · have hI := cutI_hit hlt g hall.out
        have hA := Lib.hid (show cutA s = s.extract 0 k by unfold cutA; rw [hI])
        have hB := Lib.hid (show cutB s = s.extract (k + 1) s.size by unfold cutB; rw [hI])
        have hF := Lib.hid (show cutF s = true by unfold cutF; rw [hI]; exact decide_eq_true hlt)
        have hg : ((s[k].toNat : Int) == 32) = true := by rw [g]; rfl
        clear hI g
        have c1 : (0 : Int) ≤ (k : Int) := by omega
        have c2 : (k : Int) ≤ (s.size : Int) := by omega
        have c3 : (0 : Int) ≤ (k : Int) + 1 := by omega
        have c4 : (k : Int) + 1 ≤ (s.size : Int) := by omega
        have c5 : IntKind.i64.wrap ((k : Int) + 1) = (k : Int) + 1 := IntWalk.i64_in _ (by omega)
        have c6 : ((k : Int) + 1).toNat = k + 1 := by omega
        go_wp2
        go_quiet (fail)
        go_wp2
        go_ret3
        exact ⟨by rw [hA.out, hB.out, hF.out]; rfl, nq, rfl⟩
      · have hg : ((s[k].toNat : Int) == 32) = false := by
          rw [beq_eq_false_iff_ne]; intro e; apply g; apply UInt8.toNat_inj.1; show s[k].toNat = 32; omega
        have hG := Lib.hid g
        clear g
        go_wp2
        go_round
        case rel =>
          refine ⟨k + 1, by omega, by go_num, fun j hj hjk => ?_⟩
          by_cases e : j = k
          · subst e; exact hG.out
          · exact hall.out j hj (by omega)
        case measure => simp [intOf]; omega
    · have he : cutI s = s.size := cutI_miss (fun j hj => hall.out j hj (by omega))
      have hA := Lib.hid (cutA_all he)
      have hB := Lib.hid (cutB_none he)
      have hF := Lib.hid (show cutF s = false by unfold cutF; rw [he]; simp)
      clear he
      go_wp2
      go_ret3
      exact ⟨by rw [hA.out, hB.out, hF.out]; rfl, 0, rfl⟩
end Go.Proofs.YtpbaobmegomfpabDoor

/-
  Walks of statements: say.kindOf, say.split, say.Check and what they call.
-/
namespace Go.Proofs.YtpbaobmegomfpabDoor
open Go.RowKit
set_option linter.unusedVariables false
set_option maxRecDepth 100000

set_option maxHeartbeats 400000 in
theorem kindOf_any (s : ByteArray) (w : World) (hW : Words w) :
    Calls Tryd.prog 57 #[.string s] w fun e w' => e = .returned (.int .i64 (kindN s)) ∧ w = w' := by
  have HW := Lib.hid hW
  clear hW
  go_enter Tryd.func57, Tryd.ntmps57
  go_wp2
  go_loop [3] (fun c => ∃ k : Nat, 1 ≤ k ∧ k ≤ 12 ∧ c = .int .i64 k ∧ Hid (∀ j, 1 ≤ j → j < k → wordL j ≠ s.data.toList)) (fun c => 12 - (intOf c).toNat)
  case atStart => exact ⟨1, by omega, by omega, rfl, fun j h1 h => by omega⟩
  case round =>
    obtain ⟨k, hk1, hk, rfl, hall⟩ := hrel
    by_cases hlt : k ≤ 11
    · have hc := HW.out.cell k hlt
      have hwl := Lib.hid (wordAt_toList k)
      go_wp2
      · have h : ((wordAt k).toList == s.toList) = true := by assumption
        rw [Lib.toList_data, Lib.toList_data, hwl.out, beq_iff_eq] at h
        have hk := kindN_hit hk1 hlt h
        go_ret
        exact ⟨ret_int (by rw [hk]), rfl⟩
      · have h : ((wordAt k).toList == s.toList) = false := by assumption
        rw [Lib.toList_data, Lib.toList_data, hwl.out, beq_eq_false_iff_ne] at h
        go_round
        case rel =>
          refine ⟨k + 1, by omega, by omega, by go_num, fun j h1 hjk => ?_⟩
          by_cases e : j = k
          · subst e; exact h
          · exact hall.out j h1 (by omega)
        case measure => simp [intOf]; omega
    · have hk := Lib.hid (kindN_none (fun j h1 h2 => hall.out j h1 (by omega)))
      go_wp2
      go_ret
      exact ⟨ret_int (by rw [hk.out]; rfl), rfl⟩

set_option maxHeartbeats 400000 in
theorem split_kind (s : ByteArray) (w : World) (hs : s.size ≤ maxLen) (hW : Words w) (h : kindN (cutA s) = 0) :
    Calls Tryd.prog 35 #[.string s] w fun e w' => e = .returned (.tuple #[.agg #[.int .i64 0, .string ⟨#[]⟩, .string ⟨#[]⟩], .int .i64 3]) ∧ Below w.heap.size w w' := by
  have HW := Lib.hid hW
  have H := Lib.hid h
  clear hW h
  go_enter Tryd.func35, Tryd.ntmps35
  go_wp2_with fail
  refine (cut_any s _ hs).mono ?_
  rintro e w1 ⟨rfl, n, rfl⟩
  go_wp2_with fail
  refine (kindOf_any (cutA s) _ ((HW.out.alloc _).drewN n)).mono ?_
  rw [H.out]
  rintro e w2 ⟨rfl, rfl⟩
  go_wp2
  refine bodyPost_ret (v := .tuple #[.agg #[.int .i64 0, .string ⟨#[]⟩, .string ⟨#[]⟩], .int .i64 3]) (by simp [results, Tryd.results35, go_sem]) rfl ⟨rfl, ?_⟩
  repeat' (first | exact Below.refl _ _ | assumption | with_reducible refine below_drewN ?_ _ | with_reducible refine Below.drew ?_ | with_reducible refine Below.setCell ?_ ?_ _ | with_reducible refine Below.alloc ?_ ?_ _ | (simp; done) | (simp; omega))

set_option maxHeartbeats 400000 in
theorem split_a (s : ByteArray) (w : World) (hs : s.size ≤ maxLen) (hW : Words w) (h : kindN (cutA s) ≠ 0) (h1 : cutF s = true) (h2 : (cutA (cutB s)).toList.isEmpty = true) :
    Calls Tryd.prog 35 #[.string s] w fun e w' => e = .returned (.tuple #[.agg #[.int .i64 0, .string ⟨#[]⟩, .string ⟨#[]⟩], .int .i64 4]) ∧ Below w.heap.size w w' := by
  have HW := Lib.hid hW
  have hk0 : ((kindN (cutA s) : Int) == 0) = false := beq_eq_false_iff_ne.2 (by omega)
  have hs2 : (cutB s).size ≤ maxLen := by rw [cutB_size]; omega
  clear hW h
  go_enter Tryd.func35, Tryd.ntmps35
  go_wp2_with fail
  refine (cut_any s _ hs).mono ?_
  rintro e w1 ⟨rfl, n, rfl⟩
  go_wp2_with fail
  refine (kindOf_any (cutA s) _ ((HW.out.alloc _).drewN n)).mono ?_
  rintro e w2 ⟨rfl, rfl⟩
  go_wp2_with fail
  refine (cut_any (cutB s) _ hs2).mono ?_
  rintro e w3 ⟨rfl, m, rfl⟩
  go_wp2
  refine bodyPost_ret (v := .tuple #[.agg #[.int .i64 0, .string ⟨#[]⟩, .string ⟨#[]⟩], .int .i64 4]) (by simp [results, Tryd.results35, go_sem]) rfl ⟨rfl, ?_⟩
  repeat' (first | exact Below.refl _ _ | assumption | with_reducible refine below_drewN ?_ _ | with_reducible refine Below.drew ?_ | with_reducible refine Below.setCell ?_ ?_ _ | with_reducible refine Below.alloc ?_ ?_ _ | (simp; done) | (simp; omega))


set_option maxHeartbeats 400000 in
theorem split_b (s : ByteArray) (w : World) (hs : s.size ≤ maxLen) (hW : Words w) (h : kindN (cutA s) ≠ 0) (h1 : cutF s = false) (h3 : cutF (cutB s) = false) :
    Calls Tryd.prog 35 #[.string s] w fun e w' => e = .returned (.tuple #[.agg #[.int .i64 (kindN (cutA s)), .string (cutA (cutB s)), .string (cutB (cutB s))], .int .i64 0]) ∧ Below w.heap.size w w' := by
  have HW := Lib.hid hW
  have hk0 : ((kindN (cutA s) : Int) == 0) = false := beq_eq_false_iff_ne.2 (by omega)
  have hs2 : (cutB s).size ≤ maxLen := by rw [cutB_size]; omega
  clear hW h
  go_enter Tryd.func35, Tryd.ntmps35
  go_wp2_with fail
  refine (cut_any s _ hs).mono ?_
  rintro e w1 ⟨rfl, n, rfl⟩
  go_wp2_with fail
  refine (kindOf_any (cutA s) _ ((HW.out.alloc _).drewN n)).mono ?_
  rintro e w2 ⟨rfl, rfl⟩
  go_wp2_with fail
  refine (cut_any (cutB s) _ hs2).mono ?_
  rintro e w3 ⟨rfl, m, rfl⟩
  go_wp2
  refine bodyPost_ret (v := .tuple #[.agg #[.int .i64 (kindN (cutA s)), .string (cutA (cutB s)), .string (cutB (cutB s))], .int .i64 0]) (by simp [results, Tryd.results35, go_sem]) rfl ⟨rfl, ?_⟩
  repeat' (first | exact Below.refl _ _ | assumption | with_reducible refine below_drewN ?_ _ | with_reducible refine Below.drew ?_ | with_reducible refine Below.setCell ?_ ?_ _ | with_reducible refine Below.alloc ?_ ?_ _ | (simp; done) | (simp; omega))


set_option maxHeartbeats 400000 in
theorem split_c (s : ByteArray) (w : World) (hs : s.size ≤ maxLen) (hW : Words w) (h : kindN (cutA s) ≠ 0) (h1 : cutF s = true) (h2 : (cutA (cutB s)).toList.isEmpty = false) (h3 : cutF (cutB s) = false) :
    Calls Tryd.prog 35 #[.string s] w fun e w' => e = .returned (.tuple #[.agg #[.int .i64 (kindN (cutA s)), .string (cutA (cutB s)), .string (cutB (cutB s))], .int .i64 0]) ∧ Below w.heap.size w w' := by
  have HW := Lib.hid hW
  have hk0 : ((kindN (cutA s) : Int) == 0) = false := beq_eq_false_iff_ne.2 (by omega)
  have hs2 : (cutB s).size ≤ maxLen := by rw [cutB_size]; omega
  clear hW h
  go_enter Tryd.func35, Tryd.ntmps35
  go_wp2_with fail
  refine (cut_any s _ hs).mono ?_
  rintro e w1 ⟨rfl, n, rfl⟩
  go_wp2_with fail
  refine (kindOf_any (cutA s) _ ((HW.out.alloc _).drewN n)).mono ?_
  rintro e w2 ⟨rfl, rfl⟩
  go_wp2_with fail
  refine (cut_any (cutB s) _ hs2).mono ?_
  rintro e w3 ⟨rfl, m, rfl⟩
  go_wp2
  refine bodyPost_ret (v := .tuple #[.agg #[.int .i64 (kindN (cutA s)), .string (cutA (cutB s)), .string (cutB (cutB s))], .int .i64 0]) (by simp [results, Tryd.results35, go_sem]) rfl ⟨rfl, ?_⟩
  repeat' (first | exact Below.refl _ _ | assumption | with_reducible refine below_drewN ?_ _ | with_reducible refine Below.drew ?_ | with_reducible refine Below.setCell ?_ ?_ _ | with_reducible refine Below.alloc ?_ ?_ _ | (simp; done) | (simp; omega))


set_option maxHeartbeats 400000 in
theorem split_d (s : ByteArray) (w : World) (hs : s.size ≤ maxLen) (hW : Words w) (h : kindN (cutA s) ≠ 0) (h1 : cutF s = true) (h2 : (cutA (cutB s)).toList.isEmpty = false) (h3 : cutF (cutB s) = true) (h4 : (cutB (cutB s)).toList.isEmpty = true) :
    Calls Tryd.prog 35 #[.string s] w fun e w' => e = .returned (.tuple #[.agg #[.int .i64 0, .string ⟨#[]⟩, .string ⟨#[]⟩], .int .i64 4]) ∧ Below w.heap.size w w' := by
  have HW := Lib.hid hW
  have hk0 : ((kindN (cutA s) : Int) == 0) = false := beq_eq_false_iff_ne.2 (by omega)
  have hs2 : (cutB s).size ≤ maxLen := by rw [cutB_size]; omega
  clear hW h
  go_enter Tryd.func35, Tryd.ntmps35
  go_wp2_with fail
  refine (cut_any s _ hs).mono ?_
  rintro e w1 ⟨rfl, n, rfl⟩
  go_wp2_with fail
  refine (kindOf_any (cutA s) _ ((HW.out.alloc _).drewN n)).mono ?_
  rintro e w2 ⟨rfl, rfl⟩
  go_wp2_with fail
  refine (cut_any (cutB s) _ hs2).mono ?_
  rintro e w3 ⟨rfl, m, rfl⟩
  go_wp2
  refine bodyPost_ret (v := .tuple #[.agg #[.int .i64 0, .string ⟨#[]⟩, .string ⟨#[]⟩], .int .i64 4]) (by simp [results, Tryd.results35, go_sem]) rfl ⟨rfl, ?_⟩
  repeat' (first | exact Below.refl _ _ | assumption | with_reducible refine below_drewN ?_ _ | with_reducible refine Below.drew ?_ | with_reducible refine Below.setCell ?_ ?_ _ | with_reducible refine Below.alloc ?_ ?_ _ | (simp; done) | (simp; omega))


set_option maxHeartbeats 400000 in
theorem split_e (s : ByteArray) (w : World) (hs : s.size ≤ maxLen) (hW : Words w) (h : kindN (cutA s) ≠ 0) (h1 : cutF s = true) (h2 : (cutA (cutB s)).toList.isEmpty = false) (h3 : cutF (cutB s) = true) (h4 : (cutB (cutB s)).toList.isEmpty = false) :
    Calls Tryd.prog 35 #[.string s] w fun e w' => e = .returned (.tuple #[.agg #[.int .i64 (kindN (cutA s)), .string (cutA (cutB s)), .string (cutB (cutB s))], .int .i64 0]) ∧ Below w.heap.size w w' := by
  have HW := Lib.hid hW
  have hk0 : ((kindN (cutA s) : Int) == 0) = false := beq_eq_false_iff_ne.2 (by omega)
  have hs2 : (cutB s).size ≤ maxLen := by rw [cutB_size]; omega
  clear hW h
  go_enter Tryd.func35, Tryd.ntmps35
  go_wp2_with fail
  refine (cut_any s _ hs).mono ?_
  rintro e w1 ⟨rfl, n, rfl⟩
  go_wp2_with fail
  refine (kindOf_any (cutA s) _ ((HW.out.alloc _).drewN n)).mono ?_
  rintro e w2 ⟨rfl, rfl⟩
  go_wp2_with fail
  refine (cut_any (cutB s) _ hs2).mono ?_
  rintro e w3 ⟨rfl, m, rfl⟩
  go_wp2
  refine bodyPost_ret (v := .tuple #[.agg #[.int .i64 (kindN (cutA s)), .string (cutA (cutB s)), .string (cutB (cutB s))], .int .i64 0]) (by simp [results, Tryd.results35, go_sem]) rfl ⟨rfl, ?_⟩
  repeat' (first | exact Below.refl _ _ | assumption | with_reducible refine below_drewN ?_ _ | with_reducible refine Below.drew ?_ | with_reducible refine Below.setCell ?_ ?_ _ | with_reducible refine Below.alloc ?_ ?_ _ | (simp; done) | (simp; omega))


/-- a text that is a statement's, but for what Check asks -/
theorem split_ok (s : ByteArray) (w : World) (hs : s.size ≤ maxLen) (hW : Words w) (h : splitE s = 0) :
    Calls Tryd.prog 35 #[.string s] w fun e w' => e = .returned (.tuple #[.agg #[.int .i64 (kindN (cutA s)), .string (cutA (cutB s)), .string (cutB (cutB s))], .int .i64 0]) ∧ Below w.heap.size w w' := by
  obtain ⟨h0, hb⟩ := splitE_ok h
  unfold splitBad at hb
  cases h1 : cutF s
  · exact split_b s w hs hW h0 h1 (cutF_none h1)
  · rw [h1] at hb
    cases h2 : (cutA (cutB s)).toList.isEmpty
    · rw [h2] at hb
      cases h3 : cutF (cutB s)
      · exact split_c s w hs hW h0 h1 h2 h3
      · rw [h3] at hb
        cases h4 : (cutB (cutB s)).toList.isEmpty
        · exact split_e s w hs hW h0 h1 h2 h3 h4
        · rw [h4] at hb; simp at hb
    · rw [h2] at hb; simp at hb
/-- and one that is not -/
theorem split_no (s : ByteArray) (w : World) (hs : s.size ≤ maxLen) (hW : Words w) (h : splitE s ≠ 0) :
    Calls Tryd.prog 35 #[.string s] w fun e w' => e = .returned (.tuple #[.agg #[.int .i64 0, .string ⟨#[]⟩, .string ⟨#[]⟩], .int .i64 (splitE s)]) ∧ Below w.heap.size w w' := by
  by_cases h0 : kindN (cutA s) = 0
  · rw [splitE_kind h0]; exact split_kind s w hs hW h0
  · have hb := splitE_bad h0 h
    rw [splitE_form h0 hb]
    unfold splitBad at hb
    cases h1 : cutF s
    · rw [h1, cutF_none h1] at hb; simp at hb
    · rw [h1] at hb
      cases h2 : (cutA (cutB s)).toList.isEmpty
      · rw [h2] at hb
        cases h3 : cutF (cutB s)
        · rw [h3] at hb; simp at hb
        · rw [h3] at hb
          cases h4 : (cutB (cutB s)).toList.isEmpty
          · rw [h4] at hb; simp at hb
          · exact split_d s w hs hW h0 h1 h2 h3 h4
      · exact split_a s w hs hW h0 h1 h2

end Go.Proofs.YtpbaobmegomfpabDoor

/-
  Walks of say.Check and what it calls.
-/
namespace Go.Proofs.YtpbaobmegomfpabDoor
open Go.RowKit
set_option linter.unusedVariables false
set_option maxRecDepth 100000

/-- a cell of a block that was just laid -/
theorem cell_new (w : World) (cs : Array Value) (t : TypeId) (i : Nat) (h : i < cs.size) : (w.alloc (.cells cs t)).cell? ⟨w.heap.size, i, none⟩ = some cs[i] := by
  rw [World.cell?_alloc_at _ _ _ _ rfl, Array.getElem?_eq_getElem h]

set_option maxHeartbeats 400000 in
theorem plainValueFits_any (k : Int) (key v : ByteArray) (w : World) (hv : v.size ≤ maxLen) :
    Calls Tryd.prog 76 #[.agg #[.int .i64 k, .string key, .string v]] w fun e w' => e = .returned (.bool (plainV k v)) ∧ Below w.heap.size w w' := by
  by_cases h : k = 9 ∨ k = 10
  · rw [plainV_yes h]
    rcases h with rfl | rfl
    all_goals
      go_enter Tryd.func76, Tryd.ntmps76
      go_wp2_with fail
      refine (isValue_any v _ hv).mono ?_
      rintro e w1 ⟨rfl, hb⟩
      go_wp2
      go_ret
      exact ⟨rfl, bel_trans ((Below.refl _ _).alloc (Nat.le_refl _) _) hb⟩
  · rw [plainV_no h]
    have h9 : (k == 9) = false := beq_eq_false_iff_ne.2 (by omega)
    have h10 : (k == 10) = false := beq_eq_false_iff_ne.2 (by omega)
    clear h
    go_enter Tryd.func76, Tryd.ntmps76
    go_wp2
    go_ret
    exact ⟨rfl, (Below.refl _ _).alloc (Nat.le_refl _) _⟩

set_option maxHeartbeats 1000000 in
theorem keyFits_any (k : Int) (key v : ByteArray) (w : World) (hk : key.size ≤ maxLen) :
    Calls Tryd.prog 58 #[.agg #[.int .i64 k, .string key, .string v]] w fun e w' => e = .returned (.bool (keyB k key)) ∧ Below w.heap.size w w' := by
  by_cases h : 6 ≤ k ∧ k ≤ 11
  · rw [keyB_yes h]
    obtain rfl | rfl | rfl | rfl | rfl | rfl : k = 6 ∨ k = 7 ∨ k = 8 ∨ k = 9 ∨ k = 10 ∨ k = 11 := by omega
    all_goals
      clear h
      go_enter Tryd.func58, Tryd.ntmps58
      go_wp2_with fail
      refine (name_any key _ hk).mono ?_
      rintro e w1 ⟨rfl, hb⟩
      go_wp2
      go_ret
      exact ⟨rfl, bel_trans ((Below.refl _ _).alloc (Nat.le_refl _) _) hb⟩
  · rw [keyB_no h]
    have h6 : (k == 6) = false := beq_eq_false_iff_ne.2 (by omega)
    have h7 : (k == 7) = false := beq_eq_false_iff_ne.2 (by omega)
    have h8 : (k == 8) = false := beq_eq_false_iff_ne.2 (by omega)
    have h9 : (k == 9) = false := beq_eq_false_iff_ne.2 (by omega)
    have h10 : (k == 10) = false := beq_eq_false_iff_ne.2 (by omega)
    have h11 : (k == 11) = false := beq_eq_false_iff_ne.2 (by omega)
    clear h
    go_enter Tryd.func58, Tryd.ntmps58
    go_wp2
    go_ret
    exact ⟨rfl, (Below.refl _ _).alloc (Nat.le_refl _) _⟩

set_option maxHeartbeats 1000000 in
theorem preparable_any (t : ByteArray) (w : World) (ht : t.size ≤ maxLen) (hW : Words w) :
    Calls Tryd.prog 75 #[.string t] w fun e w' => e = .returned (.bool (prepB t)) ∧ Below w.heap.size w w' := by
  have HW := Lib.hid hW
  clear hW
  by_cases h : splitE t = 0
  · by_cases hk : kindN (cutA t) = 6 ∨ kindN (cutA t) = 7 ∨ kindN (cutA t) = 10
    · rw [prepB_rest h hk]
      have H := Lib.hid h
      clear h
      have hs1 : (cutA (cutB t)).size ≤ maxLen := by rw [cutA_size]; have := cutI_le (cutB t); have := cutB_size t; omega
      have hs2 : (cutB (cutB t)).size ≤ maxLen := by rw [cutB_size]; have := cutB_size t; omega
      have hsp := Lib.hid (split_ok t w ht HW.out H.out)
      generalize cutA (cutB t) = key at *
      generalize cutB (cutB t) = v at *
      generalize kindN (cutA t) = k at *
      cases hn : bndB 97 122 8 key
      · have HN := Lib.hid hn
        clear hn
        rcases hk with rfl | rfl | rfl
        all_goals
          go_enter Tryd.func75, Tryd.ntmps75
          go_wp2_with fail
          refine hsp.out.mono ?_
          rintro e w1 ⟨rfl, hb⟩
          go_wp2_with fail
          refine (name_any key _ hs1).mono ?_
          rw [HN.out]
          rintro e w2 ⟨rfl, hb2⟩
          go_wp2
          go_ret
          exact ⟨by rw [Bool.false_and]; rfl, bel_trans (hb.alloc hb.size _) hb2⟩
      · have HN := Lib.hid hn
        clear hn
        rcases hk with rfl | rfl | rfl
        all_goals
          go_enter Tryd.func75, Tryd.ntmps75
          go_wp2_with fail
          refine hsp.out.mono ?_
          rintro e w1 ⟨rfl, hb⟩
          go_wp2_with fail
          refine (name_any key _ hs1).mono ?_
          rw [HN.out]
          rintro e w2 ⟨rfl, hb2⟩
          have c0 := (hb2.cell (p := ⟨w1.heap.size, 0, none⟩) (by simp)).trans (cell_new w1 _ _ 0 (by simp))
          have c1 := (hb2.cell (p := ⟨w1.heap.size, 1, none⟩) (by simp)).trans (cell_new w1 _ _ 1 (by simp))
          have c2 := (hb2.cell (p := ⟨w1.heap.size, 2, none⟩) (by simp)).trans (cell_new w1 _ _ 2 (by simp))
          simp only [List.getElem_toArray, List.getElem_cons_zero, List.getElem_cons_succ] at c0 c1 c2
          go_wp2_with fail
          refine (plainValueFits_any _ key v _ hs2).mono ?_
          rintro e w3 ⟨rfl, hb3⟩
          go_wp2
          go_ret
          exact ⟨by rw [Bool.true_and]; rfl, bel_trans (bel_trans (hb.alloc hb.size _) hb2) hb3⟩
    · rw [prepB_kind hk]
      have H := Lib.hid h
      clear h
      have hsp := Lib.hid (split_ok t w ht HW.out H.out)
      generalize cutA (cutB t) = key at *
      generalize cutB (cutB t) = v at *
      generalize kindN (cutA t) = k at *
      have h6 : ((k : Int) == 6) = false := beq_eq_false_iff_ne.2 (by omega)
      have h7 : ((k : Int) == 7) = false := beq_eq_false_iff_ne.2 (by omega)
      have h10 : ((k : Int) == 10) = false := beq_eq_false_iff_ne.2 (by omega)
      clear hk
      go_enter Tryd.func75, Tryd.ntmps75
      go_wp2_with fail
      refine hsp.out.mono ?_
      rintro e w1 ⟨rfl, hb⟩
      go_wp2
      go_ret
      exact ⟨rfl, hb.alloc hb.size _⟩
  · rw [prepB_split h]
    have hsp := Lib.hid (split_no t w ht HW.out h)
    have hne : ((splitE t) != 0) = true := bne_iff_ne.2 h
    generalize splitE t = e0 at *
    clear h
    go_enter Tryd.func75, Tryd.ntmps75
    go_wp2_with fail
    refine hsp.out.mono ?_
    rintro e w1 ⟨rfl, hb⟩
    go_wp2
    go_ret
    exact ⟨rfl, hb.alloc hb.size _⟩

set_option maxHeartbeats 400000 in
theorem valueFits_any (k : Int) (key v : ByteArray) (w : World) (hv : v.size ≤ maxLen) (hW : Words w) :
    Calls Tryd.prog 59 #[.agg #[.int .i64 k, .string key, .string v]] w fun e w' => e = .returned (.bool (valueB k v)) ∧ Below w.heap.size w w' := by
  have HW := Lib.hid hW
  clear hW
  by_cases h : k = 11
  · subst h
    go_enter Tryd.func59, Tryd.ntmps59
    go_wp2_with fail
    refine (preparable_any v _ hv (HW.out.alloc _)).mono ?_
    rintro e w1 ⟨rfl, hb⟩
    go_wp2
    go_ret
    exact ⟨rfl, bel_trans ((Below.refl _ _).alloc (Nat.le_refl _) _) hb⟩
  · have hvb := Lib.hid (show valueB k v = plainV k v by unfold valueB; rw [if_neg h])
    have h11 : (k == 11) = false := beq_eq_false_iff_ne.2 h
    clear h
    go_enter Tryd.func59, Tryd.ntmps59
    go_wp2_with fail
    refine (plainValueFits_any k key v _ hv).mono ?_
    rintro e w1 ⟨rfl, hb⟩
    go_wp2
    go_ret
    exact ⟨by rw [hvb.out]; rfl, bel_trans ((Below.refl _ _).alloc (Nat.le_refl _) _) hb⟩

set_option maxHeartbeats 1000000 in
theorem check_any (k : Int) (key v : ByteArray) (w : World) (hk : key.size ≤ maxLen) (hv : v.size ≤ maxLen) (hW : Words w) :
    Calls Tryd.prog 36 #[.agg #[.int .i64 k, .string key, .string v]] w fun e w' => e = .returned (.int .i64 (checkE k key v)) ∧ Below w.heap.size w w' := by
  have HW := Lib.hid hW
  clear hW
  by_cases h : k < 1 ∨ 11 < k
  · rw [checkE_kind h]
    rcases h with h | h
    · go_enter Tryd.func36, Tryd.ntmps36
      go_wp2
      go_ret
      exact ⟨rfl, (Below.refl _ _).alloc (Nat.le_refl _) _⟩
    · have h1 : decide (k < 1) = false := decide_eq_false (by omega)
      go_enter Tryd.func36, Tryd.ntmps36
      go_wp2
      go_ret
      exact ⟨rfl, (Below.refl _ _).alloc (Nat.le_refl _) _⟩
  · have d1 : decide (k < 1) = false := decide_eq_false (by omega)
    have d2 : decide (11 < k) = false := decide_eq_false (by omega)
    cases h1 : keyB k key
    · rw [checkE_key h h1]
      have H1 := Lib.hid h1
      clear h h1
      go_enter Tryd.func36, Tryd.ntmps36
      go_wp2_with fail
      refine (keyFits_any k key v _ hk).mono ?_
      rw [H1.out]
      rintro e w1 ⟨rfl, hb⟩
      go_wp2
      go_ret
      exact ⟨rfl, bel_trans ((Below.refl _ _).alloc (Nat.le_refl _) _) hb⟩
    · have H1 := Lib.hid h1
      cases h2 : valueB k v
      all_goals
        first | rw [checkE_value h h2] | rw [checkE_ok h h1 h2]
        have H2 := Lib.hid h2
        clear h2 h h1
        go_enter Tryd.func36, Tryd.ntmps36
        go_wp2_with fail
        refine (keyFits_any k key v _ hk).mono ?_
        rw [H1.out]
        rintro e w1 ⟨rfl, hb⟩
        have c0 := (hb.cell (p := ⟨w.heap.size, 0, none⟩) (by simp)).trans (cell_new w _ _ 0 (by simp))
        have c1 := (hb.cell (p := ⟨w.heap.size, 1, none⟩) (by simp)).trans (cell_new w _ _ 1 (by simp))
        have c2 := (hb.cell (p := ⟨w.heap.size, 2, none⟩) (by simp)).trans (cell_new w _ _ 2 (by simp))
        simp only [List.getElem_toArray, List.getElem_cons_zero, List.getElem_cons_succ] at c0 c1 c2
        have hW1 := Lib.hid ((HW.out.alloc _).below hb)
        go_wp2_with fail
        refine (valueFits_any k key v _ hv hW1.out).mono ?_
        rw [H2.out]
        rintro e w2 ⟨rfl, hb2⟩
        go_wp2
        go_ret
        exact ⟨rfl, bel_trans (bel_trans ((Below.refl _ _).alloc (Nat.le_refl _) _) hb) hb2⟩

end Go.Proofs.YtpbaobmegomfpabDoor

/-
  A statement (a struct of a number and two strings) in memory.
-/
namespace Go.Proofs.YtpbaobmegomfpabDoor
open Go.RowKit
set_option linter.unusedVariables false

/-- a statement in memory -/
structure Stm (w : World) (b : Nat) (k : Int) (x y : ByteArray) : Prop where
  lt : b < w.heap.size
  c0 : w.cell? ⟨b, 0, none⟩ = some (.int .i64 k)
  c1 : w.cell? ⟨b, 1, none⟩ = some (.string x)
  c2 : w.cell? ⟨b, 2, none⟩ = some (.string y)
  fz : ∀ i, w.frozen? ⟨b, i, none⟩ = false
theorem Stm.below {w w' : World} {b : Nat} {k : Int} {x y : ByteArray} (h : Stm w b k x y) (hb : Below w.heap.size w w') : Stm w' b k x y :=
  ⟨Nat.lt_of_lt_of_le h.lt hb.size, (hb.cell (p := ⟨b, 0, none⟩) h.lt).trans h.c0, (hb.cell (p := ⟨b, 1, none⟩) h.lt).trans h.c1, (hb.cell (p := ⟨b, 2, none⟩) h.lt).trans h.c2,
    fun i => (hb.frozen (p := ⟨b, i, none⟩) h.lt).trans (h.fz i)⟩

theorem Stm.set0 {w : World} {b : Nat} {k k' : Int} {x y : ByteArray} (h : Stm w b k x y) : Stm (w.setCell ⟨b, 0, none⟩ (.int .i64 k')) b k' x y := by
  obtain ⟨lt, c0, c1, c2, fz⟩ := h
  refine ⟨by simpa using lt, ?_, ?_, ?_, fun i => ?_⟩
  · simp [go_sem, c0]
  · simp [go_sem, c1]
  · simp [go_sem, c2]
  · simp [go_sem, fz]
theorem Stm.other {w : World} {b b' i : Nat} {k : Int} {x y : ByteArray} {u : Value} (h : Stm w b k x y) (_ : b ≠ b') : Stm (w.setCell ⟨b', i, none⟩ u) b k x y := by
  obtain ⟨lt, c0, c1, c2, fz⟩ := h
  refine ⟨by simpa using lt, ?_, ?_, ?_, fun i => ?_⟩
  · simp [go_sem, c0]
  · simp [go_sem, c1]
  · simp [go_sem, c2]
  · simp [go_sem, fz]
theorem Stm.new (w : World) (k : Int) (x y : ByteArray) (t : TypeId) : Stm (w.alloc (.cells #[.int .i64 k, .string x, .string y] t)) w.heap.size k x y := by
  refine ⟨by simp, ?_, ?_, ?_, fun i => ?_⟩
  · rw [cell_new _ _ _ 0 (by simp)]; rfl
  · rw [cell_new _ _ _ 1 (by simp)]; rfl
  · rw [cell_new _ _ _ 2 (by simp)]; rfl
  · simp [go_sem]

theorem Stm.set12 {w : World} {b : Nat} {k : Int} {x y x' y' : ByteArray} (h : Stm w b k x y) : Stm ((w.setCell ⟨b, 1, none⟩ (.string x')).setCell ⟨b, 2, none⟩ (.string y')) b k x' y' := by
  obtain ⟨lt, c0, c1, c2, fz⟩ := h
  refine ⟨by simpa using lt, ?_, ?_, ?_, fun i => ?_⟩
  · simp [go_sem, c0]
  · simp [go_sem, c1]
  · simp [go_sem, c2]
  · simp [go_sem, fz]

end Go.Proofs.YtpbaobmegomfpabDoor

/-
  Walks of say.Read.
-/
namespace Go.Proofs.YtpbaobmegomfpabDoor
open Go.RowKit
set_option linter.unusedVariables false
set_option maxRecDepth 100000

theorem cell_set3 {w : World} {b R i : Nat} {u x y z : Value} (h : w.cell? ⟨b, i, none⟩ = some u) (hne : b ≠ R) :
    (((w.setCell ⟨R, 0, none⟩ x).setCell ⟨R, 1, none⟩ y).setCell ⟨R, 2, none⟩ z).cell? ⟨b, i, none⟩ = some u := by
  simp [go_sem, h]

set_option maxHeartbeats 1000000 in
theorem read_ok (t : ByteArray) (w : World) (hW : Words w) (h : readE t = 0) :
    Calls Tryd.prog 20 #[.string t] w fun e w' => e = .returned (.tuple #[.agg #[.int .i64 (kindN (cutA t)), .string (cutA (cutB t)), .string (cutB (cutB t))], .int .i64 0]) ∧ Below w.heap.size w w' := by
  have HW := Lib.hid hW
  clear hW
  have hl : ¬ 60 < t.size := fun hl => by rw [readE_long hl] at h; cases h
  have hsp : splitE t = 0 := Classical.byContradiction fun hs => by rw [readE_split hl hs] at h; exact hs h
  have hck := readE_check hl hsp
  rw [h] at hck
  have hd : decide (60 < (t.size : Int)) = false := decide_eq_false (by omega)
  have hg := good_of hck.symm
  have k8 := hg.key8
  have v60 := hg.v60
  have HSP := Lib.hid (split_ok t (w.alloc (.cells #[.int .i64 0, .string ⟨#[]⟩, .string ⟨#[]⟩] 27)) (by unfold maxLen; omega) (HW.out.alloc _) hsp)
  have HCK := Lib.hid hck
  clear hck hsp h hg
  generalize kindN (cutA t) = k at *
  generalize cutA (cutB t) = key at *
  generalize cutB (cutB t) = v at *
  go_enter Tryd.func20, Tryd.ntmps20
  go_wp2_with fail
  refine HSP.out.mono ?_
  rintro e w1 ⟨rfl, hb⟩
  have R := (Stm.new w 0 ⟨#[]⟩ ⟨#[]⟩ 27).below hb
  have HR := Lib.hid R
  clear R
  go_wp2_with fail
  have hc := check_any k key v (w1.alloc (.cells #[.int .i64 k, .string key, .string v] 27)) (by unfold maxLen; omega) (by unfold maxLen; omega) (((HW.out.alloc _).below hb).alloc _)
  rw [← HCK.out] at hc
  refine hc.mono ?_
  clear hc
  rintro e w2 ⟨rfl, hb2⟩
  have S2 := (Stm.new w1 k key v 27).below hb2
  have R2 := (HR.out.below ((Below.refl _ _).alloc (Nat.le_refl _) (.cells #[.int .i64 k, .string key, .string v] 27))).below hb2
  obtain ⟨sl, s0, s1, s2, sf⟩ := S2
  obtain ⟨rl, r0, r1, r2, rf⟩ := R2
  have b2 : Below w.heap.size w w2 := bel_trans ((bel_trans ((Below.refl _ _).alloc (Nat.le_refl _) _) hb).alloc (bel_trans ((Below.refl _ _).alloc (Nat.le_refl _) _) hb).size _) hb2
  have hne : w1.heap.size ≠ w.heap.size := by have := HR.out.lt; omega
  go_wp2
  go_region_held3 (fun wx => wx.cell? ⟨w1.heap.size, 0, none⟩ = some (.int .i64 k) ∧ wx.cell? ⟨w1.heap.size, 1, none⟩ = some (.string key) ∧ wx.cell? ⟨w1.heap.size, 2, none⟩ = some (.string v))
    (first | exact ⟨p0, p1, p2⟩ | exact ⟨s0, s1, s2⟩ | exact ⟨cell_set3 p0 hne, cell_set3 p1 hne, cell_set3 p2 hne⟩)
    (first
      | (
        go_at_call_of 25 (Value.string key)
        refine (clone_any key _ (by omega)).mono ?_
        rintro e w3 ⟨rfl, hy⟩
        have q0 : w3.cell? ⟨w.heap.size, 0, none⟩ = some (.int .i64 0) := by first | exact (hy.cell (p := ⟨w.heap.size, 0, none⟩) rl).trans r0 | exact (hy.cell (p := ⟨w.heap.size, 0, none⟩) ql).trans q0
        have q1 : w3.cell? ⟨w.heap.size, 1, none⟩ = some (.string ⟨#[]⟩) := by first | exact (hy.cell (p := ⟨w.heap.size, 1, none⟩) rl).trans r1 | exact (hy.cell (p := ⟨w.heap.size, 1, none⟩) ql).trans q1
        have q2 : w3.cell? ⟨w.heap.size, 2, none⟩ = some (.string ⟨#[]⟩) := by first | exact (hy.cell (p := ⟨w.heap.size, 2, none⟩) rl).trans r2 | exact (hy.cell (p := ⟨w.heap.size, 2, none⟩) ql).trans q2
        have qf : ∀ i, w3.frozen? ⟨w.heap.size, i, none⟩ = false := by first | exact fun i => (hy.frozen (p := ⟨w.heap.size, i, none⟩) rl).trans (rf i) | exact fun i => (hy.frozen (p := ⟨w.heap.size, i, none⟩) ql).trans (qf i)
        have p0 : w3.cell? ⟨w1.heap.size, 0, none⟩ = some (.int .i64 k) := by first | exact (hy.cell (p := ⟨w1.heap.size, 0, none⟩) sl).trans s0 | exact (hy.cell (p := ⟨w1.heap.size, 0, none⟩) pl).trans p0
        have p1 : w3.cell? ⟨w1.heap.size, 1, none⟩ = some (.string key) := by first | exact (hy.cell (p := ⟨w1.heap.size, 1, none⟩) sl).trans s1 | exact (hy.cell (p := ⟨w1.heap.size, 1, none⟩) pl).trans p1
        have p2 : w3.cell? ⟨w1.heap.size, 2, none⟩ = some (.string v) := by first | exact (hy.cell (p := ⟨w1.heap.size, 2, none⟩) sl).trans s2 | exact (hy.cell (p := ⟨w1.heap.size, 2, none⟩) pl).trans p2
        have pb : Below w.heap.size w w3 := by first | exact b2.trans ⟨hy.os, hy.tape, hy.output, hy.size, fun i hi => hy.block i (by first | exact Nat.lt_trans hi rl | exact Nat.lt_of_lt_of_le hi b2.size)⟩ | exact pb.trans (hy.mono pb.size)
        have ql : w.heap.size < w3.heap.size := by first | exact Nat.lt_of_lt_of_le rl hy.size | exact Nat.lt_of_lt_of_le ql hy.size
        have pl : w1.heap.size < w3.heap.size := by first | exact Nat.lt_of_lt_of_le sl hy.size | exact Nat.lt_of_lt_of_le pl hy.size)
      | (
        go_at_call_of 25 (Value.string v)
        refine (clone_any v _ (by omega)).mono ?_
        rintro e w3 ⟨rfl, hy⟩
        have q0 : w3.cell? ⟨w.heap.size, 0, none⟩ = some (.int .i64 0) := by first | exact (hy.cell (p := ⟨w.heap.size, 0, none⟩) rl).trans r0 | exact (hy.cell (p := ⟨w.heap.size, 0, none⟩) ql).trans q0
        have q1 : w3.cell? ⟨w.heap.size, 1, none⟩ = some (.string ⟨#[]⟩) := by first | exact (hy.cell (p := ⟨w.heap.size, 1, none⟩) rl).trans r1 | exact (hy.cell (p := ⟨w.heap.size, 1, none⟩) ql).trans q1
        have q2 : w3.cell? ⟨w.heap.size, 2, none⟩ = some (.string ⟨#[]⟩) := by first | exact (hy.cell (p := ⟨w.heap.size, 2, none⟩) rl).trans r2 | exact (hy.cell (p := ⟨w.heap.size, 2, none⟩) ql).trans q2
        have qf : ∀ i, w3.frozen? ⟨w.heap.size, i, none⟩ = false := by first | exact fun i => (hy.frozen (p := ⟨w.heap.size, i, none⟩) rl).trans (rf i) | exact fun i => (hy.frozen (p := ⟨w.heap.size, i, none⟩) ql).trans (qf i)
        have p0 : w3.cell? ⟨w1.heap.size, 0, none⟩ = some (.int .i64 k) := by first | exact (hy.cell (p := ⟨w1.heap.size, 0, none⟩) sl).trans s0 | exact (hy.cell (p := ⟨w1.heap.size, 0, none⟩) pl).trans p0
        have p1 : w3.cell? ⟨w1.heap.size, 1, none⟩ = some (.string key) := by first | exact (hy.cell (p := ⟨w1.heap.size, 1, none⟩) sl).trans s1 | exact (hy.cell (p := ⟨w1.heap.size, 1, none⟩) pl).trans p1
        have p2 : w3.cell? ⟨w1.heap.size, 2, none⟩ = some (.string v) := by first | exact (hy.cell (p := ⟨w1.heap.size, 2, none⟩) sl).trans s2 | exact (hy.cell (p := ⟨w1.heap.size, 2, none⟩) pl).trans p2
        have pb : Below w.heap.size w w3 := by first | exact b2.trans ⟨hy.os, hy.tape, hy.output, hy.size, fun i hi => hy.block i (by first | exact Nat.lt_trans hi rl | exact Nat.lt_of_lt_of_le hi b2.size)⟩ | exact pb.trans (hy.mono pb.size)
        have ql : w.heap.size < w3.heap.size := by first | exact Nat.lt_of_lt_of_le rl hy.size | exact Nat.lt_of_lt_of_le ql hy.size
        have pl : w1.heap.size < w3.heap.size := by first | exact Nat.lt_of_lt_of_le sl hy.size | exact Nat.lt_of_lt_of_le pl hy.size))
  all_goals go_wp2
  all_goals refine bodyPost_ret (v := .tuple #[.agg #[.int .i64 k, .string key, .string v], .int .i64 0]) (by simp [results, Tryd.results20, go_sem, q0, q1, q2]) rfl ⟨rfl, ?_⟩
  all_goals repeat' (first | exact Below.refl _ _ | assumption | with_reducible refine below_drewN ?_ _ | with_reducible refine Below.drew ?_ | with_reducible refine Below.setCell ?_ ?_ _ | with_reducible refine Below.alloc ?_ ?_ _ | (simp; done) | (simp; omega))

theorem read_long (t : ByteArray) (w : World) (h : 60 < t.size) :
    Calls Tryd.prog 20 #[.string t] w fun e w' => e = .returned (.tuple #[.agg #[.int .i64 0, .string ⟨#[]⟩, .string ⟨#[]⟩], .int .i64 1]) ∧ Below w.heap.size w w' := by
  have hd : decide (60 < (t.size : Int)) = true := decide_eq_true (by omega)
  go_enter Tryd.func20, Tryd.ntmps20
  go_wp2
  refine bodyPost_ret (v := .tuple #[.agg #[.int .i64 0, .string ⟨#[]⟩, .string ⟨#[]⟩], .int .i64 1]) (by simp [results, Tryd.results20, go_sem]) rfl ⟨rfl, ?_⟩
  repeat' (first | exact Below.refl _ _ | assumption | with_reducible refine below_drewN ?_ _ | with_reducible refine Below.drew ?_ | with_reducible refine Below.setCell ?_ ?_ _ | with_reducible refine Below.alloc ?_ ?_ _ | (simp; done) | (simp; omega))

set_option maxHeartbeats 400000 in
theorem read_split (t : ByteArray) (w : World) (hW : Words w) (hl : ¬ 60 < t.size) (h : splitE t ≠ 0) :
    Calls Tryd.prog 20 #[.string t] w fun e w' => e = .returned (.tuple #[.agg #[.int .i64 0, .string ⟨#[]⟩, .string ⟨#[]⟩], .int .i64 (splitE t)]) ∧ Below w.heap.size w w' := by
  have hd : decide (60 < (t.size : Int)) = false := decide_eq_false (by omega)
  have HSP := Lib.hid (split_no t (w.alloc (.cells #[.int .i64 0, .string ⟨#[]⟩, .string ⟨#[]⟩] 27)) (by unfold maxLen; omega) (hW.alloc _) h)
  have h1 : (splitE t == 0) = false := beq_eq_false_iff_ne.2 h
  have h2 : (splitE t != 0) = true := bne_iff_ne.2 h
  generalize splitE t = c at *
  clear hW h
  go_enter Tryd.func20, Tryd.ntmps20
  go_wp2_with fail
  refine HSP.out.mono ?_
  rintro e w1 ⟨rfl, hb⟩
  obtain ⟨rl, r0, r1, r2, rf⟩ := (Stm.new w 0 ⟨#[]⟩ ⟨#[]⟩ 27).below hb
  have bel := bel_trans ((Below.refl _ _).alloc (Nat.le_refl _) _) hb
  go_wp2
  refine bodyPost_ret (v := .tuple #[.agg #[.int .i64 0, .string ⟨#[]⟩, .string ⟨#[]⟩], .int .i64 c]) (by simp [results, Tryd.results20, go_sem, r0, r1, r2, rl]) rfl ⟨rfl, ?_⟩
  repeat' (first | exact Below.refl _ _ | assumption | with_reducible refine below_drewN ?_ _ | with_reducible refine Below.drew ?_ | with_reducible refine Below.setCell ?_ ?_ _ | with_reducible refine Below.alloc ?_ ?_ _ | (simp; done) | (simp; omega))

set_option maxHeartbeats 400000 in
theorem read_check (t : ByteArray) (w : World) (hW : Words w) (hl : ¬ 60 < t.size) (h : splitE t = 0) (hc : checkE (kindN (cutA t)) (cutA (cutB t)) (cutB (cutB t)) ≠ 0) :
    Calls Tryd.prog 20 #[.string t] w fun e w' => e = .returned (.tuple #[.agg #[.int .i64 0, .string ⟨#[]⟩, .string ⟨#[]⟩], .int .i64 (checkE (kindN (cutA t)) (cutA (cutB t)) (cutB (cutB t)))]) ∧ Below w.heap.size w w' := by
  have hd : decide (60 < (t.size : Int)) = false := decide_eq_false (by omega)
  have HW := Lib.hid hW
  have HSP := Lib.hid (split_ok t (w.alloc (.cells #[.int .i64 0, .string ⟨#[]⟩, .string ⟨#[]⟩] 27)) (by unfold maxLen; omega) (hW.alloc _) h)
  have hk8 : (cutA (cutB t)).size ≤ maxLen := by rw [cutA_size]; have := cutI_le (cutB t); have := cutB_size t; unfold maxLen; omega
  have hv8 : (cutB (cutB t)).size ≤ maxLen := by rw [cutB_size]; have := cutB_size t; unfold maxLen; omega
  generalize kindN (cutA t) = k at *
  generalize cutA (cutB t) = key at *
  generalize cutB (cutB t) = v at *
  have h2 : (checkE k key v != 0) = true := bne_iff_ne.2 hc
  clear hW h hc
  go_enter Tryd.func20, Tryd.ntmps20
  go_wp2_with fail
  refine HSP.out.mono ?_
  rintro e w1 ⟨rfl, hb⟩
  have HR := Lib.hid ((Stm.new w 0 ⟨#[]⟩ ⟨#[]⟩ 27).below hb)
  go_wp2_with fail
  refine (check_any k key v (w1.alloc (.cells #[.int .i64 k, .string key, .string v] 27)) hk8 hv8 (((HW.out.alloc _).below hb).alloc _)).mono ?_
  rintro e w2 ⟨rfl, hb2⟩
  obtain ⟨rl, r0, r1, r2, rf⟩ := (HR.out.below ((Below.refl _ _).alloc (Nat.le_refl _) (.cells #[.int .i64 k, .string key, .string v] 27))).below hb2
  have bel : Below w.heap.size w w2 := bel_trans ((bel_trans ((Below.refl _ _).alloc (Nat.le_refl _) _) hb).alloc (bel_trans ((Below.refl _ _).alloc (Nat.le_refl _) _) hb).size _) hb2
  go_wp2
  refine bodyPost_ret (v := .tuple #[.agg #[.int .i64 0, .string ⟨#[]⟩, .string ⟨#[]⟩], .int .i64 (checkE k key v)]) (by simp [results, Tryd.results20, go_sem, r0, r1, r2]) rfl ⟨rfl, ?_⟩
  repeat' (first | exact Below.refl _ _ | assumption | with_reducible refine below_drewN ?_ _ | with_reducible refine Below.drew ?_ | with_reducible refine Below.setCell ?_ ?_ _ | with_reducible refine Below.alloc ?_ ?_ _ | (simp; done) | (simp; omega))

theorem read_no (t : ByteArray) (w : World) (hW : Words w) (h : readE t ≠ 0) :
    Calls Tryd.prog 20 #[.string t] w fun e w' => e = .returned (.tuple #[.agg #[.int .i64 0, .string ⟨#[]⟩, .string ⟨#[]⟩], .int .i64 (readE t)]) ∧ Below w.heap.size w w' := by
  by_cases hl : 60 < t.size
  · rw [readE_long hl]; exact read_long t w hl
  · by_cases hs : splitE t = 0
    · rw [readE_check hl hs] at h ⊢; exact read_check t w hW hl hs h
    · rw [readE_split hl hs]; exact read_split t w hW hl hs

end Go.Proofs.YtpbaobmegomfpabDoor

/-
  Walks of back.exec.
-/
namespace Go.Proofs.YtpbaobmegomfpabDoor
open Go.RowKit
set_option linter.unusedVariables false
set_option linter.unusedSimpArgs false
set_option maxRecDepth 100000

theorem prep_read {v : ByteArray} (h : prepB v = true) : readE v = 0 ∧ (1 ≤ kindN (cutA v) ∧ kindN (cutA v) ≤ 11 ∧ kindN (cutA v) ≠ 8) ∧ (cutA (cutB v)).size ≤ 8 ∧ (cutB (cutB v)).size ≤ 60 := by
  have h38 := prepB_38 h
  unfold prepB at h
  simp only [Bool.and_eq_true, decide_eq_true_eq] at h
  have a4 := bndB_size h.2.2.1
  have a5 := plainV_size h.2.2.2
  refine ⟨?_, by omega, a4.2, by omega⟩
  rw [readE_check (by omega) h.1]
  refine checkE_ok (by omega) ?_ ?_
  · rw [keyB_yes (by omega)]; exact h.2.2.1
  · unfold valueB; rw [if_neg (by omega)]; exact h.2.2.2
theorem prep_of {k v : ByteArray} (h : checkE 11 k v = 0) : prepB v = true := by
  cases e : prepB v
  · exfalso
    rw [checkE_value (by omega) (by unfold valueB; rw [if_pos rfl]; exact e)] at h
    cases h
  · rfl

set_option maxHeartbeats 2000000 in
theorem exec_none (X S gR cR : Nat) (G C : Nat → Nat → Nat) (W : Wd) (i : Nat) (key : ByteArray) (w : World) (h : OwnD w X S gR cR G C W) (hw : WorldOk W) (hi : i < W.ss.length) (hat : atL W.ss[i].prep key = none) :
    Calls Tryd.prog 43 #[.pointer (some ⟨X, 0, none⟩), .int .i64 i, .string key] w fun e w' => e = .returned (ansV 4 tNotPrep) ∧ Below w.heap.size w w' := by
  have hz := worldOk_sz hw
  have hXw := h.box.lt
  have hSw := h.blk.lt
  have x1 := h.box.cell (j := 1) (by simp)
  simp only [List.getElem_cons_zero, List.getElem_cons_succ] at x1
  unfold slc at x1
  have hii : (i : Int) < (W.ss.length : Int) := by omega
  have p1 : w.cell? ⟨S, i * 5 + 2, none⟩ = some (.slice (some ⟨G i 1, 0, none⟩) W.ss[i].prep.length (C i 1)) := h.cs i 1 hi (by omega)
  have b0 : Below w.heap.size w ((w.alloc (.cells #[.int .i64 0, .string ⟨#[]⟩, .int .i64 0] 30)).alloc (.cells #[.slice (some ⟨G i 1, 0, none⟩) W.ss[i].prep.length (C i 1)] 22)) := ((Below.refl _ _).alloc (Nat.le_refl _) _).alloc (by simp) _
  have X0 : RowTo ((w.alloc (.cells #[.int .i64 0, .string ⟨#[]⟩, .int .i64 0] 30)).alloc (.cells #[.slice (some ⟨G i 1, 0, none⟩) W.ss[i].prep.length (C i 1)] 22)) w.heap.size 30 3 [.int .i64 0, .string ⟨#[]⟩, .int .i64 0] := (RowTo.whole w #[.int .i64 0, .string ⟨#[]⟩, .int .i64 0] 30).alloc _
  have HL := Lib.hid ((h.list hz hi (j := 1) (by omega)).step b0)
  have HRI := Lib.hid ((pairsB_rising (hw.sess i hi).prep).1)
  have hF : findA [W.ss[i].prep] key = none := by simp only [findA, hat]
  have HF := Lib.hid (show Calls Tryd.prog 42 #[.string key, .slice (some ⟨w.heap.size + 1, 0, none⟩) 1 1] ((w.alloc (.cells #[.int .i64 0, .string ⟨#[]⟩, .int .i64 0] 30)).alloc (.cells #[.slice (some ⟨G i 1, 0, none⟩) W.ss[i].prep.length (C i 1)] 22)) (fun e w' => e = .returned (.agg #[.int .i64 3, .string ⟨#[]⟩, .int .i64 0]) ∧ Below ((w.alloc (.cells #[.int .i64 0, .string ⟨#[]⟩, .int .i64 0] 30)).alloc (.cells #[.slice (some ⟨G i 1, 0, none⟩) W.ss[i].prep.length (C i 1)] 22)).heap.size ((w.alloc (.cells #[.int .i64 0, .string ⟨#[]⟩, .int .i64 0] 30)).alloc (.cells #[.slice (some ⟨G i 1, 0, none⟩) W.ss[i].prep.length (C i 1)] 22)) w') by
    have q := find_any key (w.heap.size + 1) [W.ss[i].prep] (fun _ => .slice (some ⟨G i 1, 0, none⟩) W.ss[i].prep.length (C i 1)) ((w.alloc (.cells #[.int .i64 0, .string ⟨#[]⟩, .int .i64 0] 30)).alloc (.cells #[.slice (some ⟨G i 1, 0, none⟩) W.ss[i].prep.length (C i 1)] 22)) (by simp) (by simp) (fun n hn => by
      obtain rfl : n = 0 := by simp at hn; omega
      exact ⟨by simp [go_sem], HL.out, HRI.out⟩)
    rw [hF] at q
    exact q)
  have hzs : ((w.alloc (.cells #[.int .i64 0, .string ⟨#[]⟩, .int .i64 0] 30)).alloc (.cells #[.slice (some ⟨G i 1, 0, none⟩) W.ss[i].prep.length (C i 1)] 22)).heap.size = w.heap.size + 1 + 1 := by simp
  have H := Lib.hid h
  have HZ := Lib.hid hz
  have HW := Lib.hid hw
  have B0 := Lib.hid b0
  have HX0 := Lib.hid X0
  have HZS := Lib.hid hzs
  have HAT := Lib.hid hat
  clear h hz hw b0 X0 hzs hF hat
  go_enter Tryd.func43, Tryd.ntmps43
  go_wp2_with fail
  refine HF.out.mono ?_
  rintro e w1 ⟨rfl, hb1⟩
  have hs1 := hb1.size
  rw [HZS.out] at hs1
  have X1 := HX0.out.below hb1 HX0.out.lt
  have B1 := Lib.hid (bel_add' B0.out hb1 B0.out.size)
  have HX1 := Lib.hid X1
  clear hb1 X1
  go_wp2_with fail
  refine (failure_any tNotPrep _).mono ?_
  rintro e w2 ⟨rfl, hb2⟩
  have B2 := Lib.hid (show Below w.heap.size w w2 from bel_add' ((B1.out).alloc (by omega) _) hb2 (by simp; omega))
  have X2 : RowTo w2 w.heap.size 30 3 [.int .i64 0, .string ⟨#[]⟩, .int .i64 0] := (HX1.out.alloc _).below hb2 (by simp; omega)
  have r0 := X2.cell (j := 0) (by simp)
  have r1 := X2.cell (j := 1) (by simp)
  have r2 := X2.cell (j := 2) (by simp)
  have s0 := X2.frozen 0
  have s1 := X2.frozen 1
  have s2 := X2.frozen 2
  simp only [List.getElem_cons_zero, List.getElem_cons_succ] at r0 r1 r2
  clear hb2 X2
  unfold ansV
  go_wp2
  refine bodyPost_ret (v := .agg #[.int .i64 4, .string tNotPrep, .int .i64 0]) (by simp [results, Tryd.results43, go_sem, r0, r1, r2]) rfl ⟨rfl, ?_⟩
  exact ((B2.out.setCell (by simp) _).setCell (by simp) _).setCell (by simp) _

set_option maxHeartbeats 2000000 in
theorem exec_some (base X S gR cR : Nat) (G C : Nat → Nat → Nat) (W : Wd) (i : Nat) (key t : ByteArray) (w : World) (h : OwnD w X S gR cR G C W) (lo : LoD base X S gR G W.ss.length) (hw : WorldOk W) (hb : base ≤ w.heap.size) (hi : i < W.ss.length) (hW : Words w) (hat : atL W.ss[i].prep key = some t) :
    Calls Tryd.prog 43 #[.pointer (some ⟨X, 0, none⟩), .int .i64 i, .string key] w (ExPost w base X S gR G W.ss.length (did1 W i (kindN (cutA t)) (cutA (cutB t)) (cutB (cutB t)))) := by
  obtain ⟨hre, ⟨hk1, hk2, hk8⟩, hkz, hvz⟩ := prep_read (v := t) (prep_of (k := key) (v := t) ((pairsB_rising (hw.sess i hi).prep).2.2 _ (atL_mem hat)))
  have HRE := Lib.hid hre
  have HWW := Lib.hid hW
  obtain ⟨r, hr⟩ : ∃ r, r = did1 W i (kindN (cutA t)) (cutA (cutB t)) (cutB (cutB t)) := ⟨_, rfl⟩
  rw [← hr]
  have HX := Lib.hid (show ∀ (w9 : World), OwnD w9 X S gR cR G C W → base ≤ w9.heap.size → Calls Tryd.prog 24 #[.pointer (some ⟨X, 0, none⟩), .int .i64 i, .agg #[.int .i64 (kindN (cutA t)), .string (cutA (cutB t)), .string (cutB (cutB t))]] w9 (ExPost w9 base X S gR G W.ss.length r) from fun w9 h9 hb9 => by
    rw [hr]
    exact execute_plain base X S gR cR G C W i _ _ _ w9 h9 lo hw hb9 hi hkz hvz (by omega) (by omega) (by omega))
  clear hre hr hk1 hk2 hk8 hkz hvz hW
  have hz := worldOk_sz hw
  have hXw := h.box.lt
  have hSw := h.blk.lt
  have x1 := h.box.cell (j := 1) (by simp)
  simp only [List.getElem_cons_zero, List.getElem_cons_succ] at x1
  unfold slc at x1
  have hii : (i : Int) < (W.ss.length : Int) := by omega
  have p1 : w.cell? ⟨S, i * 5 + 2, none⟩ = some (.slice (some ⟨G i 1, 0, none⟩) W.ss[i].prep.length (C i 1)) := h.cs i 1 hi (by omega)
  have b0 : Below w.heap.size w ((w.alloc (.cells #[.int .i64 0, .string ⟨#[]⟩, .int .i64 0] 30)).alloc (.cells #[.slice (some ⟨G i 1, 0, none⟩) W.ss[i].prep.length (C i 1)] 22)) := ((Below.refl _ _).alloc (Nat.le_refl _) _).alloc (by simp) _
  have X0 : RowTo ((w.alloc (.cells #[.int .i64 0, .string ⟨#[]⟩, .int .i64 0] 30)).alloc (.cells #[.slice (some ⟨G i 1, 0, none⟩) W.ss[i].prep.length (C i 1)] 22)) w.heap.size 30 3 [.int .i64 0, .string ⟨#[]⟩, .int .i64 0] := (RowTo.whole w #[.int .i64 0, .string ⟨#[]⟩, .int .i64 0] 30).alloc _
  have HL := Lib.hid ((h.list hz hi (j := 1) (by omega)).step b0)
  have HRI := Lib.hid ((pairsB_rising (hw.sess i hi).prep).1)
  have hF : findA [W.ss[i].prep] key = some t := by simp only [findA, hat]
  have HF := Lib.hid (show Calls Tryd.prog 42 #[.string key, .slice (some ⟨w.heap.size + 1, 0, none⟩) 1 1] ((w.alloc (.cells #[.int .i64 0, .string ⟨#[]⟩, .int .i64 0] 30)).alloc (.cells #[.slice (some ⟨G i 1, 0, none⟩) W.ss[i].prep.length (C i 1)] 22)) (fun e w' => e = .returned (.agg #[.int .i64 2, .string t, .int .i64 0]) ∧ Below ((w.alloc (.cells #[.int .i64 0, .string ⟨#[]⟩, .int .i64 0] 30)).alloc (.cells #[.slice (some ⟨G i 1, 0, none⟩) W.ss[i].prep.length (C i 1)] 22)).heap.size ((w.alloc (.cells #[.int .i64 0, .string ⟨#[]⟩, .int .i64 0] 30)).alloc (.cells #[.slice (some ⟨G i 1, 0, none⟩) W.ss[i].prep.length (C i 1)] 22)) w') by
    have q := find_any key (w.heap.size + 1) [W.ss[i].prep] (fun _ => .slice (some ⟨G i 1, 0, none⟩) W.ss[i].prep.length (C i 1)) ((w.alloc (.cells #[.int .i64 0, .string ⟨#[]⟩, .int .i64 0] 30)).alloc (.cells #[.slice (some ⟨G i 1, 0, none⟩) W.ss[i].prep.length (C i 1)] 22)) (by simp) (by simp) (fun n hn => by
      obtain rfl : n = 0 := by simp at hn; omega
      exact ⟨by simp [go_sem], HL.out, HRI.out⟩)
    rw [hF] at q
    exact q)
  have hzs : ((w.alloc (.cells #[.int .i64 0, .string ⟨#[]⟩, .int .i64 0] 30)).alloc (.cells #[.slice (some ⟨G i 1, 0, none⟩) W.ss[i].prep.length (C i 1)] 22)).heap.size = w.heap.size + 1 + 1 := by simp
  have H := Lib.hid h
  have HZ := Lib.hid hz
  have HW := Lib.hid hw
  have B0 := Lib.hid b0
  have HX0 := Lib.hid X0
  have HZS := Lib.hid hzs
  have HAT := Lib.hid hat
  clear h hz hw b0 X0 hzs hF hat
  go_enter Tryd.func43, Tryd.ntmps43
  go_wp2_with fail
  refine HF.out.mono ?_
  rintro e w1 ⟨rfl, hb1⟩
  have hs1 := hb1.size
  rw [HZS.out] at hs1
  have X1 := HX0.out.below hb1 HX0.out.lt
  have B1 := Lib.hid (bel_add' B0.out hb1 B0.out.size)
  have HX1 := Lib.hid X1
  clear hb1 X1
  go_wp2_with fail
  refine (read_ok t _ (by first | exact HWW.out.below (B1.out.alloc (by omega) _) | exact HWW.out.below B1.out) HRE.out).mono ?_
  rintro e w2 ⟨rfl, hb2⟩
  generalize hkk : kindN (cutA t) = kk at *
  generalize cutA (cutB t) = aa at *
  generalize cutB (cutB t) = bb at *
  have B2 := Lib.hid (show Below w.heap.size w (w2.alloc (.cells #[.int .i64 kk, .string aa, .string bb] 27)) from (bel_add' (B1.out.alloc (by omega) _) hb2 (by simp; omega)).alloc (by have := hb2.size; simp at this; omega) _)
  have X2 := Lib.hid (show RowTo (w2.alloc (.cells #[.int .i64 kk, .string aa, .string bb] 27)) w.heap.size 30 3 [.int .i64 0, .string ⟨#[]⟩, .int .i64 0] from (((HX1.out.alloc _).below hb2 (by simp; omega)).alloc _))
  have HGG := Lib.hid (show ∀ i j, i < W.ss.length → j < 4 → w.heap.size ≠ G i j from fun i j hi hj => by have := (H.out.ls i j hi hj).row.lt; omega)
  have hgr := H.out.rows.row.lt
  have hs2 : w.heap.size < (w2.alloc (.cells #[.int .i64 kk, .string aa, .string bb] 27)).heap.size := X2.out.lt
  have HS2 := Lib.hid hs2
  clear hb2 hs2
  go_wp2_with fail
  refine (HX.out _ (H.out.kept B2.out) (by have := HS2.out; omega)).mono ?_
  rintro e wB hp
  obtain rfl := hp.1
  have RB := X2.out.same (hp.2.2.2 w.heap.size HS2.out (by omega) (by omega) (by omega) HGG.out)
  have HP := Lib.hid hp
  have r0 := RB.cell (j := 0) (by simp)
  have r1 := RB.cell (j := 1) (by simp)
  have r2 := RB.cell (j := 2) (by simp)
  have s0 := RB.frozen 0
  have s1 := RB.frozen 1
  have s2 := RB.frozen 2
  simp only [List.getElem_cons_zero, List.getElem_cons_succ] at r0 r1 r2
  have HRB := Lib.hid RB
  clear hp RB
  unfold ansV
  go_wp2
  refine bodyPost_ret (v := .agg #[.int .i64 r.2.kind, .string r.2.text, .int .i64 0]) (by simp [results, Tryd.results43, go_sem, r0, r1, r2]) rfl ?_
  exact HP.out.laid B2.out hb (Nat.le_refl _) HRB.out _ _ _

end Go.Proofs.YtpbaobmegomfpabDoor

/-
  back.execute, every kind.
-/
namespace Go.Proofs.YtpbaobmegomfpabDoor
open Go.RowKit
set_option linter.unusedVariables false
set_option linter.unusedSimpArgs false
set_option maxRecDepth 100000

set_option maxHeartbeats 2000000 in
theorem execute_exec (base X S gR cR : Nat) (G C : Nat → Nat → Nat) (W : Wd) (i : Nat) (key val : ByteArray) (w : World) (h : OwnD w X S gR cR G C W) (lo : LoD base X S gR G W.ss.length) (hw : WorldOk W) (hb : base ≤ w.heap.size) (hi : i < W.ss.length) (hkz : key.size ≤ 8) (hvz : val.size ≤ 60) (hst : W.ss[i].st ≠ 2) (hW : Words w) :
    Calls Tryd.prog 24 #[.pointer (some ⟨X, 0, none⟩), .int .i64 i, .agg #[.int .i64 8, .string key, .string val]] w (ExPost w base X S gR G W.ss.length (didM W i 8 key val)) := by
  have hz := worldOk_sz hw
  have hXw := h.box.lt
  have hSw := h.blk.lt
  have x1 := h.box.cell (j := 1) (by simp)
  simp only [List.getElem_cons_zero, List.getElem_cons_succ] at x1
  unfold slc at x1
  have c0 := h.st i hi
  have hii : (i : Int) < (W.ss.length : Int) := by omega
  have b0 : Below w.heap.size w ((w.alloc (.cells #[.int .i64 8, .string key, .string val] 27)).alloc (.cells #[.int .i64 0, .string ⟨#[]⟩, .int .i64 0] 30)) := ((Below.refl _ _).alloc (Nat.le_refl _) _).alloc (by simp) _
  have h0 := h.kept b0
  have X0 : RowTo ((w.alloc (.cells #[.int .i64 8, .string key, .string val] 27)).alloc (.cells #[.int .i64 0, .string ⟨#[]⟩, .int .i64 0] 30)) (w.heap.size + 1) 30 3 [.int .i64 0, .string ⟨#[]⟩, .int .i64 0] := by
    have := RowTo.whole (w.alloc (.cells #[.int .i64 8, .string key, .string val] 27)) #[.int .i64 0, .string ⟨#[]⟩, .int .i64 0] 30
    simpa using this
  have hzs : ((w.alloc (.cells #[.int .i64 8, .string key, .string val] 27)).alloc (.cells #[.int .i64 0, .string ⟨#[]⟩, .int .i64 0] 30)).heap.size = w.heap.size + 1 + 1 := by simp
  have hgr := h.rows.row.lt
  have hgg : ∀ i j, i < W.ss.length → j < 4 → w.heap.size + 1 ≠ G i j := fun i j hi hj => by have := (h.ls i j hi hj).row.lt; omega
  obtain ⟨r, hr⟩ : ∃ r, r = didM W i 8 key val := ⟨_, rfl⟩
  rw [← hr]
  have hbs : base ≤ ((w.alloc (.cells #[.int .i64 8, .string key, .string val] 27)).alloc (.cells #[.int .i64 0, .string ⟨#[]⟩, .int .i64 0] 30)).heap.size := by omega
  have HC := Lib.hid (show Calls Tryd.prog 43 #[.pointer (some ⟨X, 0, none⟩), .int .i64 i, .string key] ((w.alloc (.cells #[.int .i64 8, .string key, .string val] 27)).alloc (.cells #[.int .i64 0, .string ⟨#[]⟩, .int .i64 0] 30)) (ExPost ((w.alloc (.cells #[.int .i64 8, .string key, .string val] 27)).alloc (.cells #[.int .i64 0, .string ⟨#[]⟩, .int .i64 0] 30)) base X S gR G W.ss.length r) by
    rw [hr]
    rw [show didM W i 8 key val = (match atL W.ss[i].prep key with | none => (W, no' tNotPrep) | some t => did1 W i (kindN (cutA t)) (cutA (cutB t)) (cutB (cutB t))) by unfold didM; simp only [getD_at hi]; rw [if_pos trivial, if_neg hst]; cases atL W.ss[i].prep key <;> rfl]
    cases hat : atL W.ss[i].prep key
    · exact (exec_none X S gR cR G C W i key _ h0 hw hi hat).mono fun e w' hh => ExPost.same h0 lo hz hbs hh.1 hh.2
    · exact exec_some base X S gR cR G C W i key _ _ h0 lo hw hbs hi (hW.below b0) hat)
  have H := Lib.hid h
  have HZ := Lib.hid hz
  have HW := Lib.hid hw
  have B0 := Lib.hid b0
  have HX0 := Lib.hid X0
  have HZS := Lib.hid hzs
  have HG := Lib.hid hgg
  have HR := Lib.hid hr
  clear h hz hw b0 X0 hzs hgg hr h0 hbs
  have e2 : (W.ss[i].st == 2) = false := beq_eq_false_iff_ne.2 hst
  · skip
    go_enter Tryd.func24, Tryd.ntmps24
    go_wp2_with fail
    refine HC.out.mono ?_
    rintro e wB hp
    obtain rfl := hp.1
    have RB := HX0.out.same (hp.2.2.2 (w.heap.size + 1) (by rw [HZS.out]; omega) (by omega) (by omega) (by omega) HG.out)
    have HP := Lib.hid hp
    have r0 := RB.cell (j := 0) (by simp)
    have r1 := RB.cell (j := 1) (by simp)
    have r2 := RB.cell (j := 2) (by simp)
    have s0 := RB.frozen 0
    have s1 := RB.frozen 1
    have s2 := RB.frozen 2
    simp only [List.getElem_cons_zero, List.getElem_cons_succ] at r0 r1 r2
    have HRB := Lib.hid RB
    clear hp RB
    unfold ansV
    go_wp2
    refine bodyPost_ret (v := .agg #[.int .i64 r.2.kind, .string r.2.text, .int .i64 0]) (by simp [results, Tryd.results24, go_sem, r0, r1, r2]) rfl ?_
    exact HP.out.laid B0.out hb (by omega) HRB.out _ _ _

theorem execute_any (base X S gR cR : Nat) (G C : Nat → Nat → Nat) (W : Wd) (i : Nat) (k : Int) (key val : ByteArray) (w : World) (h : OwnD w X S gR cR G C W) (lo : LoD base X S gR G W.ss.length) (hw : WorldOk W) (hb : base ≤ w.heap.size) (hi : i < W.ss.length) (hg : checkE k key val = 0) (hW : Words w) :
    Calls Tryd.prog 24 #[.pointer (some ⟨X, 0, none⟩), .int .i64 i, .agg #[.int .i64 k, .string key, .string val]] w (ExPost w base X S gR G W.ss.length (didM W i k key val)) := by
  have g := good_of hg
  by_cases h8 : k = 8
  · subst h8
    by_cases hst : W.ss[i].st = 2
    · have q := execute_failed base X S gR cR G C W i 8 key val w h lo hw hb hi g.key8 g.v60 hst (by omega)
      rw [show didM W i 8 key val = did1 W i 8 key val by rw [show did1 W i 8 key val = (W, no' tFailed) by unfold did1; simp only [getD_at hi]; rw [if_pos ⟨hst, by omega⟩]]; unfold didM; simp only [getD_at hi]; rw [if_pos trivial, if_pos hst]]
      exact q
    · exact execute_exec base X S gR cR G C W i key val w h lo hw hb hi g.key8 g.v60 hst hW
  · rw [show didM W i k key val = did1 W i k key val by unfold didM; rw [if_neg h8]]
    exact execute_plain base X S gR cR G C W i k key val w h lo hw hb hi g.key8 g.v60 g.lo g.hi h8

end Go.Proofs.YtpbaobmegomfpabDoor

/-
  Walks of back.rowsFit.
-/
namespace Go.Proofs.YtpbaobmegomfpabDoor
open Go.RowKit Go.Maps Go.WideMaps
set_option linter.unusedVariables false
set_option linter.unusedSimpArgs false
set_option maxRecDepth 100000

theorem key_string {key : Value} {l : Lit} (h : keyOf Tryd.prog 9 key = some l) : ∃ s, key = .string s ∧ l = kl s := by
  cases key <;> simp [keyOf, Tryd.underlying9, mapKey] at h
  exact ⟨_, rfl, h.2.symm⟩
/-- what has come had at most one writer -/
def FitsRel (w : World) (W : Wd) (b r n : Nat) (D : DataW Unit) (wr : World) : Prop :=
  ∃ left cnt, wr.ranges Tryd.prog 9 (plainElem Tryd.prog 3) b r n D left cnt ∧ (∀ key, Maps.has D (kl key) = true → left (kl key) = true ∨ cntL (W.ss.flatMap (·.wr)) key ≤ 1) ∧ Below w.heap.size w wr

set_option maxHeartbeats 4000000 in
theorem rowsFit_any (r s : Value) (W : Wd) (w : World) (hW : Wld w w.heap.size r s W) (hr100 : W.rows.length ≤ 100) (hrise : risingB W.rows = true) (h8 : W.ss.length ≤ 8) (hw100 : ∀ i (hi : i < W.ss.length), W.ss[i].wr.length ≤ 100) :
    Calls Tryd.prog 33 #[.agg #[r, s]] w fun e w' => e = .returned (.bool (cntOk W && decide ((allL W).length ≤ 100))) ∧ Below w.heap.size w w' := by
  have HWW := Lib.hid hW
  obtain ⟨A, c, rfl, hc⟩ := hW.sess.form
  obtain ⟨D, d, rfl, hd⟩ := hW.rows.form
  have HN := Lib.hid hw100
  have HI := Lib.hid hrise
  clear hw100 hrise hW
  have b0 : Below w.heap.size w (w.alloc (.cells #[.slice D W.rows.length d, .slice A W.ss.length c] 25)) := (Below.refl _ _).alloc (Nat.le_refl _) _
  go_enter Tryd.func33, Tryd.ntmps33
  go_wp2_with fail
  refine (countWriters_any _ _ W _ (HWW.out.step b0) hr100 HI.out h8 HN.out).mono ?_
  rintro e w1 ⟨b, n, M, rfl, hown, hmap, hn, hb, hb1⟩
  have HB := Lib.hid (bel_add' b0 hb1 b0.size)
  have HM := Lib.hid hmap
  have HO := Lib.hid hown
  have hbw : w.heap.size ≤ b := by have := b0.size; omega
  clear hown hmap hb1
  go_wp2_with (first | (at_range; refine wpList_range_own _ rfl _ 85 rfl 9 3 strLaw Tryd.underlying85 _ b n M rfl HO.out ?_; intro w0 hrg0 hg0 hs0) | go_in)
  go_frame
  have HR0 := Lib.hid hrg0
  have HB0 := Lib.hid (HB.out.grown hg0 HB.out.size (fun k hk => by cases hk))
  have hrr : w.heap.size ≤ w1.heap.size := HB.out.size
  clear hrg0 hg0 hs0 HO
  go_loopw [5] (fun _ wr => FitsRel w W b w1.heap.size n M wr) (fun _ wr => wr.rangeLeft b w1.heap.size)
  case atStart => exact ⟨_, _, HR0.out, fun key h => .inl h, HB0.out⟩
  case round =>
    clear HR0 HB0
    obtain ⟨left, cnt, hrg, hok, bel⟩ := hrel
    have HG := Lib.hid hrg
    have HK := Lib.hid hok
    have HB1 := Lib.hid bel
    clear hrg hok bel
    go_wp2_with (first | (at_next; refine wpList_next_ranges _ rfl _ rfl 9 strLaw (plainElem Tryd.prog 3) Value.string (Value.int .i64) (fun key l h => (by obtain ⟨x, hx, _⟩ := key_string h; exact ⟨x, hx⟩)) (fun v y hv => (by obtain ⟨q, hq, _⟩ := plainElem_int_inv Tryd.underlying3 hv; exact ⟨q, hq⟩)) b w1.heap.size n _ _ _ rfl HG.out ?_ ?_) | go_in)
    · intro hc0 hl0
      have HF := Lib.hid (cntOk_yes (W := W) (fun key => by
        cases hh : Maps.has M (kl key)
        · have h1 := HM.out.at_ key
          rw [atKey_of_not_has hh] at h1
          have := lit_inj h1
          omega
        · rcases HK.out key hh with h | h
          · rw [hl0] at h; cases h
          · exact h))
      have HZ := Lib.hid HM.out.size
      clear hc0 hl0
      go_wp2_with (first | (at_len; refine wpList_len_own _ rfl _ 85 rfl 9 3 Tryd.underlying85 _ b n M rfl HG.out.owns ?_) | go_in)
      go_ret
      refine ⟨?_, HB1.out⟩
      rw [HF.out, HZ.out, Bool.true_and]
      simp
      omega
    · intro x q l y yp w2 cnt2 hkey hlx hval hat hrg2 hlt2 hg2 hs2 hen
      obtain ⟨x', ex, rfl⟩ := key_string hkey
      obtain rfl : x = x' := by injection ex
      obtain ⟨q', eq', hy, _⟩ := plainElem_int_inv Tryd.underlying3 hval
      obtain rfl : q = q' := by injection eq'
      have hq : q = (cntL (W.ss.flatMap (·.wr)) x : Int) := by
        have h1 := hat (.lit (.int .i64 0))
        rw [HM.out.at_ x, (Prod.mk.inj hy).1] at h1
        exact (lit_inj h1).symm
      subst hq
      have HH := Lib.hid hrg2
      have HB2 := Lib.hid (HB1.out.grown hg2 HB1.out.size (fun k hk => by injection hk with hk; omega))
      have HLQ := Lib.hid (show wr.rangeLeft b w1.heap.size = cnt from HG.out.left_eq)
      clear hrg2 hg2 hs2 hkey hlx hval hat ex eq' hy
      by_cases hgt : 1 < cntL (W.ss.flatMap (·.wr)) x
      · have HP := Lib.hid (cntOk_no hgt)
        have e1 : decide ((1 : Int) < (cntL (W.ss.flatMap (·.wr)) x : Int)) = true := decide_eq_true (by omega)
        have e2 : decide (1 < cntL (W.ss.flatMap (·.wr)) x) = true := decide_eq_true hgt
        go_wp2
        go_ret
        exact ⟨by rw [HP.out]; rfl, HB2.out⟩
      · have e1 : decide ((1 : Int) < (cntL (W.ss.flatMap (·.wr)) x : Int)) = false := decide_eq_false (by omega)
        have e2 : decide (1 < cntL (W.ss.flatMap (·.wr)) x) = false := decide_eq_false hgt
        have HX := Lib.hid hgt
        clear hgt
        go_wp2
        go_roundw
        case rel =>
          refine ⟨_, _, HH.out, fun key hk => ?_, HB2.out⟩
          by_cases e : key = x
          · subst e; exact .inr (by have := HX.out; omega)
          · rcases HK.out key hk with h | h
            · left; rw [h, sameKey_ne (kl_ne e)]; rfl
            · exact .inr h
        case measure => rw [HH.out.left_eq, HLQ.out]; exact hlt2
end Go.Proofs.YtpbaobmegomfpabDoor

/-
  Walks of the reference's statements: wordOf, StmtFault, StmtOf (they call each other: by induction on the length of the text).
-/
namespace Go.Proofs.YtpbaobmegomfpabDoor
open Go.RowKit
set_option linter.unusedVariables false
set_option maxRecDepth 100000

set_option maxHeartbeats 1000000 in
theorem wordOf_any (k : Nat) (w : World) (h1 : 1 ≤ k) (h2 : k ≤ 11) :
    Calls Tryd.prog 66 #[.int .i64 k] w fun e w' => e = .returned (.string (wordAt k)) ∧ Below w.heap.size w w' := by
  obtain rfl | rfl | rfl | rfl | rfl | rfl | rfl | rfl | rfl | rfl | rfl : k = 1 ∨ k = 2 ∨ k = 3 ∨ k = 4 ∨ k = 5 ∨ k = 6 ∨ k = 7 ∨ k = 8 ∨ k = 9 ∨ k = 10 ∨ k = 11 := by omega
  all_goals
    go_enter Tryd.func66, Tryd.ntmps66
    go_wp2
    go_ret
    exact ⟨rfl, (Below.refl _ _).alloc (Nat.le_refl _) _⟩

end Go.Proofs.YtpbaobmegomfpabDoor

/-
  Walks of the reference's StmtFault, where StmtOf is known for shorter texts.
-/
namespace Go.Proofs.YtpbaobmegomfpabDoor
open Go.RowKit
set_option linter.unusedVariables false
set_option maxRecDepth 100000

/-- what StmtOf does at a text -/
structure OfSaid (t : ByteArray) : Prop where
  ok : readE t = 0 → ∀ w : World, Calls Tryd.prog 52 #[.string t] w fun e w' => e = .returned (.tuple #[.agg #[.int .i64 (kindN (cutA t)), .string (cutA (cutB t)), .string (cutB (cutB t))], .int .i64 0]) ∧ Below w.heap.size w w'
  no : readE t ≠ 0 → ∀ w : World, Calls Tryd.prog 52 #[.string t] w fun e w' => e = .returned (.tuple #[.agg #[.int .i64 0, .string ⟨#[]⟩, .string ⟨#[]⟩], .int .i64 (readE t)]) ∧ Below w.heap.size w w'

/-- what StmtFault does at a statement -/
def FaultSaid (k : Int) (key v : ByteArray) : Prop := ∀ w : World, Calls Tryd.prog 28 #[.agg #[.int .i64 k, .string key, .string v]] w fun e w' => e = .returned (.int .i64 (checkE k key v)) ∧ Below w.heap.size w w'

set_option maxHeartbeats 400000 in
theorem fault_kind (k : Int) (key v : ByteArray) (h : k < 1 ∨ 11 < k) : FaultSaid k key v := by
  intro w
  rw [checkE_kind h]
  go_enter Tryd.func28, Tryd.ntmps28
  go_wp2_with fail
  refine (in_no _ _ _ _ (by omega)).mono ?_
  rintro e w1 ⟨rfl, rfl⟩
  go_wp2
  go_ret
  exact ⟨rfl, (Below.refl _ _).alloc (Nat.le_refl _) _⟩

set_option maxHeartbeats 1000000 in
theorem fault_small (k : Int) (key v : ByteArray) (h1 : 1 ≤ k) (h2 : k < 6) : FaultSaid k key v := by
  intro w
  have hkb : keyB k key = key.toList.isEmpty := keyB_no (by omega)
  have hvb : valueB k v = v.toList.isEmpty := by unfold valueB; rw [if_neg (by omega)]; exact plainV_no (by omega)
  have hk : ¬ (k < 1 ∨ 11 < k) := by omega
  cases e1 : key.toList.isEmpty
  · rw [checkE_key hk (hkb.trans e1)]
    clear hkb hvb hk
    go_enter Tryd.func28, Tryd.ntmps28
    go_wp2_with fail
    refine (in_yes _ _ _ _ (by omega)).mono ?_
    rintro e w1 ⟨rfl, rfl⟩
    go_wp2
    go_ret
    exact ⟨rfl, (Below.refl _ _).alloc (Nat.le_refl _) _⟩
  · cases e2 : v.toList.isEmpty
    all_goals
      first | rw [checkE_value hk (hvb.trans e2)] | rw [checkE_ok hk (hkb.trans e1) (hvb.trans e2)]
      clear hkb hvb hk
      go_enter Tryd.func28, Tryd.ntmps28
      go_wp2_with fail
      refine (in_yes _ _ _ _ (by omega)).mono ?_
      rintro e w1 ⟨rfl, rfl⟩
      go_wp2
      go_ret
      exact ⟨rfl, (Below.refl _ _).alloc (Nat.le_refl _) _⟩

set_option maxHeartbeats 1000000 in
theorem fault_name (k : Int) (key v : ByteArray) (hs : key.size ≤ maxLen) (h1 : 6 ≤ k) (h2 : k ≤ 11) (h : bndB 97 122 8 key = false) : FaultSaid k key v := by
  intro w
  rw [checkE_key (by omega) ((keyB_yes ⟨h1, h2⟩).trans h)]
  have H := Lib.hid h
  clear h
  go_enter Tryd.func28, Tryd.ntmps28
  go_wp2_with fail
  refine (in_yes _ _ _ _ (by omega)).mono ?_
  rintro e w1 ⟨rfl, rfl⟩
  go_wp2_with fail
  refine (nameMay_any key _ hs).mono ?_
  rw [H.out]
  rintro e w2 ⟨rfl, rfl⟩
  go_wp2
  go_ret
  exact ⟨rfl, (Below.refl _ _).alloc (Nat.le_refl _) _⟩

set_option maxHeartbeats 1000000 in
theorem fault_get (k : Int) (key v : ByteArray) (hs : key.size ≤ maxLen) (hk : k = 6 ∨ k = 7 ∨ k = 8) (h : bndB 97 122 8 key = true) : FaultSaid k key v := by
  intro w
  have hkb : keyB k key = true := (keyB_yes (by omega)).trans h
  have hvb : valueB k v = v.toList.isEmpty := by unfold valueB; rw [if_neg (by omega)]; exact plainV_no (by omega)
  have hn : ¬ (k < 1 ∨ 11 < k) := by omega
  have H := Lib.hid h
  clear h
  cases e2 : v.toList.isEmpty
  all_goals
    first | rw [checkE_value hn (hvb.trans e2)] | rw [checkE_ok hn hkb (hvb.trans e2)]
    clear hkb hvb hn
    rcases hk with rfl | rfl | rfl
    all_goals
      go_enter Tryd.func28, Tryd.ntmps28
      go_wp2_with fail
      refine (in_yes _ _ _ _ (by omega)).mono ?_
      rintro e w1 ⟨rfl, rfl⟩
      go_wp2_with fail
      refine (nameMay_any key _ hs).mono ?_
      rw [H.out]
      rintro e w2 ⟨rfl, rfl⟩
      go_wp2
      go_ret
      exact ⟨rfl, (Below.refl _ _).alloc (Nat.le_refl _) _⟩

set_option maxHeartbeats 1000000 in
theorem fault_set (k : Int) (key v : ByteArray) (hs : key.size ≤ maxLen) (hv : v.size ≤ maxLen) (hk : k = 9 ∨ k = 10) (h : bndB 97 122 8 key = true) : FaultSaid k key v := by
  intro w
  have hkb : keyB k key = true := (keyB_yes (by omega)).trans h
  have hvb : valueB k v = bndB 33 126 20 v := by unfold valueB; rw [if_neg (by omega)]; exact plainV_yes hk
  have hn : ¬ (k < 1 ∨ 11 < k) := by omega
  have H := Lib.hid h
  clear h
  cases e2 : bndB 33 126 20 v
  all_goals
    first | rw [checkE_value hn (hvb.trans e2)] | rw [checkE_ok hn hkb (hvb.trans e2)]
    clear hkb hvb hn
    have E2 := Lib.hid e2
    clear e2
    rcases hk with rfl | rfl
    all_goals
      go_enter Tryd.func28, Tryd.ntmps28
      go_wp2_with fail
      refine (in_yes _ _ _ _ (by omega)).mono ?_
      rintro e w1 ⟨rfl, rfl⟩
      go_wp2_with fail
      refine (nameMay_any key _ hs).mono ?_
      rw [H.out]
      rintro e w2 ⟨rfl, rfl⟩
      go_wp2_with fail
      refine (valueMay_any v _ hv).mono ?_
      rw [E2.out]
      rintro e w3 ⟨rfl, rfl⟩
      go_wp2
      go_ret
      exact ⟨rfl, (Below.refl _ _).alloc (Nat.le_refl _) _⟩

set_option maxHeartbeats 1000000 in
theorem fault_prep (key v : ByteArray) (hs : key.size ≤ maxLen) (hO : OfSaid v) (h : bndB 97 122 8 key = true) : FaultSaid 11 key v := by
  intro w
  have hkb : keyB 11 key = true := (keyB_yes (by omega)).trans h
  have hvb : valueB 11 v = prepB v := rfl
  have hn : ¬ ((11 : Int) < 1 ∨ 11 < (11 : Int)) := by omega
  have H := Lib.hid h
  clear h
  rw [prepB_read] at hvb
  by_cases hr : readE v = 0
  · have hO1 := Lib.hid (hO.ok hr)
    clear hO
    rw [decide_eq_true hr, Bool.true_and] at hvb
    generalize cutA (cutB v) = key2 at *
    generalize cutB (cutB v) = v2 at *
    generalize kindN (cutA v) = k2 at *
    by_cases hk : k2 = 6 ∨ k2 = 7 ∨ k2 = 10
    · rw [checkE_ok hn hkb (by rw [hvb]; exact decide_eq_true hk)]
      clear hkb hvb hn hr
      rcases hk with rfl | rfl | rfl
      · go_enter Tryd.func28, Tryd.ntmps28
        go_wp2_with fail
        refine (in_yes _ _ _ _ (by omega)).mono ?_
        rintro e w1 ⟨rfl, rfl⟩
        go_wp2_with fail
        refine (nameMay_any key _ hs).mono ?_
        rw [H.out]
        rintro e w2 ⟨rfl, rfl⟩
        go_wp2_with fail
        refine (hO1.out _).mono ?_
        rintro e w3 ⟨rfl, hb⟩
        go_wp2_with fail
        refine (in_yes _ _ _ _ (by omega)).mono ?_
        rintro e w4 ⟨rfl, rfl⟩
        go_wp2
        go_ret
        exact ⟨rfl, (bel_trans ((Below.refl _ _).alloc (Nat.le_refl _) _) hb).alloc (bel_trans ((Below.refl _ _).alloc (Nat.le_refl _) _) hb).size _⟩
      · go_enter Tryd.func28, Tryd.ntmps28
        go_wp2_with fail
        refine (in_yes _ _ _ _ (by omega)).mono ?_
        rintro e w1 ⟨rfl, rfl⟩
        go_wp2_with fail
        refine (nameMay_any key _ hs).mono ?_
        rw [H.out]
        rintro e w2 ⟨rfl, rfl⟩
        go_wp2_with fail
        refine (hO1.out _).mono ?_
        rintro e w3 ⟨rfl, hb⟩
        go_wp2_with fail
        refine (in_yes _ _ _ _ (by omega)).mono ?_
        rintro e w4 ⟨rfl, rfl⟩
        go_wp2
        go_ret
        exact ⟨rfl, (bel_trans ((Below.refl _ _).alloc (Nat.le_refl _) _) hb).alloc (bel_trans ((Below.refl _ _).alloc (Nat.le_refl _) _) hb).size _⟩
      · go_enter Tryd.func28, Tryd.ntmps28
        go_wp2_with fail
        refine (in_yes _ _ _ _ (by omega)).mono ?_
        rintro e w1 ⟨rfl, rfl⟩
        go_wp2_with fail
        refine (nameMay_any key _ hs).mono ?_
        rw [H.out]
        rintro e w2 ⟨rfl, rfl⟩
        go_wp2_with fail
        refine (hO1.out _).mono ?_
        rintro e w3 ⟨rfl, hb⟩
        go_wp2_with fail
        refine (in_no _ _ _ _ (by omega)).mono ?_
        rintro e w4 ⟨rfl, rfl⟩
        go_wp2
        go_ret
        exact ⟨rfl, (bel_trans ((Below.refl _ _).alloc (Nat.le_refl _) _) hb).alloc (bel_trans ((Below.refl _ _).alloc (Nat.le_refl _) _) hb).size _⟩
    · rw [checkE_value hn (by rw [hvb]; exact decide_eq_false hk)]
      clear hkb hvb hn hr
      have h10 : ((k2 : Int) != 10) = true := bne_iff_ne.2 (by omega)
      have HK := Lib.hid hk
      clear hk
      · go_enter Tryd.func28, Tryd.ntmps28
        go_wp2_with fail
        refine (in_yes _ _ _ _ (by omega)).mono ?_
        rintro e w1 ⟨rfl, rfl⟩
        go_wp2_with fail
        refine (nameMay_any key _ hs).mono ?_
        rw [H.out]
        rintro e w2 ⟨rfl, rfl⟩
        go_wp2_with fail
        refine (hO1.out _).mono ?_
        rintro e w3 ⟨rfl, hb⟩
        go_wp2_with fail
        refine (in_no _ _ _ _ (by have := HK.out; omega)).mono ?_
        rintro e w4 ⟨rfl, rfl⟩
        go_wp2
        go_ret
        exact ⟨rfl, (bel_trans ((Below.refl _ _).alloc (Nat.le_refl _) _) hb).alloc (bel_trans ((Below.refl _ _).alloc (Nat.le_refl _) _) hb).size _⟩
  · have hO1 := Lib.hid (hO.no hr)
    clear hO
    rw [decide_eq_false hr, Bool.false_and] at hvb
    rw [checkE_value hn hvb]
    clear hkb hvb hn
    have hne : (readE v != 0) = true := bne_iff_ne.2 hr
    generalize readE v = e0 at *
    clear hr
    · go_enter Tryd.func28, Tryd.ntmps28
      go_wp2_with fail
      refine (in_yes _ _ _ _ (by omega)).mono ?_
      rintro e w1 ⟨rfl, rfl⟩
      go_wp2_with fail
      refine (nameMay_any key _ hs).mono ?_
      rw [H.out]
      rintro e w2 ⟨rfl, rfl⟩
      go_wp2_with fail
      refine (hO1.out _).mono ?_
      rintro e w3 ⟨rfl, hb⟩
      go_wp2
      go_ret
      exact ⟨rfl, (bel_trans ((Below.refl _ _).alloc (Nat.le_refl _) _) hb).alloc (bel_trans ((Below.refl _ _).alloc (Nat.le_refl _) _) hb).size _⟩

/-- StmtFault, where StmtOf is known at the Value -/
theorem fault_of (k : Int) (key v : ByteArray) (hs : key.size ≤ maxLen) (hv : v.size ≤ maxLen) (hO : OfSaid v) : FaultSaid k key v := by
  by_cases h : k < 1 ∨ 11 < k
  · exact fault_kind k key v h
  · by_cases h6 : k < 6
    · exact fault_small k key v (by omega) h6
    · cases hn : bndB 97 122 8 key
      · exact fault_name k key v hs (by omega) (by omega) hn
      · by_cases h8 : k ≤ 8
        · exact fault_get k key v hs (by omega) hn
        · by_cases h10 : k ≤ 10
          · exact fault_set k key v hs hv (by omega) hn
          · obtain rfl : k = 11 := by omega
            exact fault_prep key v hs hO hn

end Go.Proofs.YtpbaobmegomfpabDoor

