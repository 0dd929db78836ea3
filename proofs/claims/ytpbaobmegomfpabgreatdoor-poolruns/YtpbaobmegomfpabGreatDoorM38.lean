/-
  Texts of the proof, one behind the other: PRun.
-/
import Derived.Test.YtpbaobmegomfpabGreatDoorM37
import Derived.Test.YtpbaobmegomfpabGreatDoorM3
import Derived.Laws.Tables
import Derived.Test.YtpbaobmegomfpabGreatDoorM1
set_option linter.unusedVariables false
set_option linter.unusedSimpArgs false
set_option maxRecDepth 100000
open List renaming getElem_toArray → gTA, getElem_cons_zero → gCZ, getElem_cons_succ → gCS, setIfInBounds_toArray → sTA, set_cons_zero → sCZ, set_cons_succ → sCS
open Go.Lib renaming hid → jD
open Nat renaming le_refl → nL
namespace Go.Proofs.YtpbaobmegomfpabGreatDoor
open Go.RowKit
section
variable {base P : Nat} {f : Nat → Value} {G : Nat → Option Nat} {mode : Int} {m : Mach PE} {N : Nat}
set_option maxHeartbeats 1000000 in
theorem perform_any (w : World) (h : PMem 0 w base P f G mode m) (hT : Tabs w base) (hI : Inv mode m N) (hN : N + 1000 ≤ 300000) (a : Act) (ha : actE a = 0) (hbl : m.busy.length ≤ 8) :
  Calls Tryz.prog 25 #[ptr P 0, .agg #[.int .i64 a.kind, .int .i64 a.c, .string a.data]] w (PPost w base P mode (m.act poolO mode a)) := by
 have hP := h.row.lt
 have hbP := (h.lo 0 P h.p0).1
 obtain ⟨hk, hc0, hc6, hd⟩ := actE_of ha
 obtain ⟨c, hc⟩ : ∃ c : Nat, a.c = c := ⟨a.c.toNat, by omega⟩
 have hc6' : c < 6 := by omega
 have hct : a.c.toNat = c := by omega
 have n0 := (Below.refl w.heap.size w).alloc (nL _) (.cells #[.int .i64 a.kind, .int .i64 a.c, .string a.data] 54)
 obtain ⟨x0, x1, x2⟩ := cells3 (RowTo.whole w #[.int .i64 a.kind, .int .i64 a.c, .string a.data] 54)
 have nB := n0.mono (Nat.le_trans hbP (Nat.le_of_lt hP))
 have hM0 := h.below n0
 have hT0 := hT.below nB
 rw [hc] at x0 x1 x2 hM0 hT0 nB ⊢
 obtain ⟨data, HDA⟩ : ∃ d, Hid (a.data = d) := ⟨_, jD rfl⟩
 rw [HDA.out] at x0 x1 x2 hM0 hT0 nB hd ⊢
 rcases hk with hk | hk
 ·rw [hk] at x0 x1 x2 hM0 hT0 nB ⊢
  have HE := jD (show (m.deliver poolO mode c data).all poolO mode = m.act poolO mode a by unfold Mach.act; rw [if_pos hk, hct, HDA.out])
  have HD := jD (deliver_any _ hM0 hT0 hI hc6' data (by omega) hbl)
  have HT0 := jD hT0
  have HI2 := jD ((hI.deliver hc6' data).mono (show N + data.size ≤ N + 1000 by omega))
  have HB := jD nB
  have hbl2 : (m.deliver poolO mode c data).busy.length ≤ 8 := by unfold Mach.deliver; rw [feed_len]; exact hbl
  unfold ptr at HD ⊢
  clear h hT hI n0 nB hM0 hT0 ha hk HDA hc hct
  go_enter Tryz.func25, Tryz.ntmps25
  go_wp2_with fail
  refine HD.out.mono ?_
  rintro e w1 ⟨f1, G1, rfl, hM1, hB1⟩
  have HA := jD (all_any w1 hM1 (HT0.out.below hB1) HI2.out hN hbl2)
  have HB1 := jD (HB.out.trans hB1)
  unfold ptr at HA
  clear hM1 hB1 HD x0 x1 x2
  go_wp2_with fail
  refine HA.out.mono ?_
  rintro e w2 ⟨f2, G2, rfl, hM2, hB2⟩
  have HF := jD (And.intro hM2 (HB1.out.trans hB2))
  clear hM2 hB2 HA
  go_wp2
  go_end0
  rw [← HE.out]
  exact ⟨f2, G2, rfl, HF.out.1, HF.out.2⟩
 ·rw [hk] at x0 x1 x2 hM0 hT0 nB ⊢
  have HE := jD (show (m.leave poolO c).all poolO mode = m.act poolO mode a by unfold Mach.act; rw [if_neg (by omega), hct])
  have HD := jD (leave_any _ hM0 hT0 hI hc6')
  have HT0 := jD hT0
  have HI2 := jD ((hI.leave hc6').mono (show N ≤ N + 1000 by omega))
  have HB := jD nB
  have hbl2 : (m.leave poolO c).busy.length ≤ 8 := by rw [leave_len']; exact hbl
  unfold ptr at HD ⊢
  clear h hT hI n0 nB hM0 hT0 ha hk HDA hc hct
  go_enter Tryz.func25, Tryz.ntmps25
  go_wp2_with fail
  refine HD.out.mono ?_
  rintro e w1 ⟨f1, G1, rfl, hM1, hB1⟩
  have HA := jD (all_any w1 hM1 (HT0.out.below hB1) HI2.out hN hbl2)
  have HB1 := jD (HB.out.trans hB1)
  unfold ptr at HA
  clear hM1 hB1 HD x0 x1 x2
  go_wp2_with fail
  refine HA.out.mono ?_
  rintro e w2 ⟨f2, G2, rfl, hM2, hB2⟩
  have HF := jD (And.intro hM2 (HB1.out.trans hB2))
  clear hM2 hB2 HA
  go_wp2
  go_end0
  rw [← HE.out]
  exact ⟨f2, G2, rfl, HF.out.1, HF.out.2⟩
end
section
variable {P : Program} {ops : Array Oper} {Q : Exit → Go.Act → World → Prop} {md : Region.Mode} {S : World → Prop} {z : Nat}
theorem wpAnyZ_many {is : List Nat} {fuel : Nat} {listed : Array Bool} {a : Go.Act} {w : World} (hr : Region.ready md ops listed = is) (hne : is ≠ [])
  (h : ∀ i ∈ is, ∃ o, ops[i]? = some o ∧ o.guard = none ∧ ∀ K' : Go.Act → World → Prop, Shut (∀ a w, S w → wpAnyZ P md ops Q S z fuel (listed.setIfInBounds i true) a w → K' a w) → Oper.wp P o a w K' Q) : wpAnyZ P md ops Q S z (fuel + 1) listed a w := by
 refine ⟨fun h0 => absurd (hr.symm.trans h0) hne, fun j hj => ?_⟩
 rw [hr] at hj
 obtain ⟨o, ho, hg, hh⟩ := h j hj
 refine wpOp_step ho fun K' hK => ?_
 rw [if_pos (by simp [Region.wanted, hg])]
 exact hh K' (fun a w hS hW => hK a w ⟨fun _ => hS, hW⟩)
theorem wpAnyZ_share {fuel : Nat} {listed : Array Bool} {a : Go.Act} {w : World} (F : Nat → Nat → Nat → World → Prop) (v21 v22 v25 v7 : Nat → Value) (v26 : Nat → Nat → Value)
  (hfin : ∀ x y u wf, F x y u wf → Q .normal (((((a.put (some 21) (v21 x)).put (some 22) (v22 x)).put (some 25) (v25 y)).put (some 26) (v26 x y)).put (some 7) (v7 u)) wf)
  (h : Hid (∀ x y u wf, F x y u wf → Q .normal (((((a.put (some 21) (v21 x)).put (some 22) (v22 x)).put (some 25) (v25 y)).put (some 26) (v26 x y)).put (some 7) (v7 u)) wf) → wpAnyZ P md ops Q S z fuel listed a w) : wpAnyZ P md ops Q S z fuel listed a w := h (jD hfin)
end
theorem three (w : World) (c1 c2 c3 : Array Value) (t1 t2 t3 : TypeId) : (((w.alloc (.cells c1 t1)).alloc (.cells c2 t2)).alloc (.cells c3 t3)).heap[w.heap.size]? = some (.cells c1 t1) ∧ (((w.alloc (.cells c1 t1)).alloc (.cells c2 t2)).alloc (.cells c3 t3)).heap[w.heap.size + 1]? = some (.cells c2 t2) ∧
  (((w.alloc (.cells c1 t1)).alloc (.cells c2 t2)).alloc (.cells c3 t3)).heap[w.heap.size + 1 + 1]? = some (.cells c3 t3) ∧ Below w.heap.size w (((w.alloc (.cells c1 t1)).alloc (.cells c2 t2)).alloc (.cells c3 t3)) := by
 refine ⟨?_, ?_, ?_, (((Below.refl w.heap.size w).alloc (nL _) _).alloc (by simp) _).alloc (by simp; omega) _⟩
 ·rw [Below.heap_alloc _ _ _ (by simp; omega), Below.heap_alloc _ _ _ (by simp), heap_alloc_new]
 ·rw [Below.heap_alloc _ _ _ (by simp)]
  have := heap_alloc_new (w.alloc (.cells c1 t1)) (.cells c2 t2)
  simpa using this
 ·have := heap_alloc_new ((w.alloc (.cells c1 t1)).alloc (.cells c2 t2)) (.cells c3 t3)
  simpa using this
theorem bool_row : (Tryz.prog.info? 4).map (fun i => (i.zero, i.size, i.bytes)) = some (some (.bool false), 1, 1) := by kernel_rfl
theorem make_bool (n : Nat) (h : n ≤ 8) (w : World) : (Instr.makeSlice 75 (.int .i64 (n : Int)) (.int .i64 (n : Int))).run Tryz.prog w = .ok (.slice (some ⟨w.heap.size, 0, none⟩) n n) (w.alloc (.cells (madeCells #[.bool false] n) 4)) := by
 obtain ⟨i0, hi, hz0, hz1, hz2⟩ := info_parts bool_row
 have hr := run_make (P := Tryz.prog) w 75 4 i0 _ Tryz.underlying75 hi hz0 .i64 .i64 (n : Int) (n : Int) (by omega) (Int.le_refl _) (by rw [hz2]; omega) (by omega)
 rw [hz1, Nat.mul_one, show (Value.bool false).cells = #[.bool false] from rfl] at hr
 simpa only [Int.toNat_natCast] using hr
theorem exec_pool {ev : Operand → Value} {o : Oper} {x y z : Operand} {mode : Int} {bS bB n : Nat} (ho : o.op = .build 83 #[(0, x), (1, y), (2, z)]) (hx : ev x = .int .i64 mode) (hy : ev y = .agg #[.slice none 0 0, .slice (some ⟨bS, 0, none⟩) n n]) (hz : ev z = .slice (some ⟨bB, 0, none⟩) n n) (w : World) :
  (execOp ev o).run Tryz.prog w = .ok (.value (.agg (poolV mode (.slice (some ⟨bS, 0, none⟩) n n) (.slice (some ⟨bB, 0, none⟩) n n)).toArray)) w := by
 have h := run_build (P := Tryz.prog) w 83 #[(0, .int .i64 mode), (1, .agg #[.slice none 0 0, .slice (some ⟨bS, 0, none⟩) n n]), (2, .slice (some ⟨bB, 0, none⟩) n n)] _ (built_pool mode (.slice (some ⟨bS, 0, none⟩) n n) (.slice (some ⟨bB, 0, none⟩) n n) rfl rfl)
 unfold execOp
 simp only [ho, Sem.run_bind, Sem.run_pure, List.map_toArray, List.map_cons, List.map_nil, hx, hy, hz, h, Result.andThen_ok]
theorem pool_size : (Tryz.prog.info? 83).map (·.size) = some 48 := by kernel_rfl
theorem poolV_len (mode : Int) (a b : Value) : (poolV mode a b).toArray.size = 48 := rfl
theorem poolV_one (mode : Int) (bS bB n : Nat) : (poolV mode (.slice (some ⟨bS, 0, none⟩) n n) (.slice (some ⟨bB, 0, none⟩) n n)).toArray.all (·.oneCell') = true := by kernel_rfl
def zeroP : Array Value := #[.int .i64 0, .slice none 0 0, .slice none 0 0, .slice none 0 0, .string ⟨#[]⟩, .slice none 0 0, .bool false, .int .i64 0, .slice none 0 0, .slice none 0 0, .string ⟨#[]⟩, .slice none 0 0, .bool false, .int .i64 0, .slice none 0 0, .slice none 0 0, .string ⟨#[]⟩, .slice none 0 0, .bool false, .int .i64 0, .slice none 0 0, .slice none 0 0, .string ⟨#[]⟩, .slice none 0 0, .bool false, .int .i64 0, .slice none 0 0, .slice none 0 0, .string ⟨#[]⟩, .slice none 0 0, .bool false, .int .i64 0, .slice none 0 0, .slice none 0 0, .string ⟨#[]⟩, .slice none 0 0, .bool false, .int .i64 0, .slice none 0 0, .slice none 0 0, .slice none 0 0, .slice none 0 0, .slice none 0 0, .slice none 0 0, .slice none 0 0, .slice none 0 0, .slice none 0 0, .slice none 0 0]
def zeroS (n : Nat) : Array Value := madeCells #[.int .i64 0, .slice none 0 0, .slice none 0 0, .slice none 0 0, .slice none 0 0] (n * 5)
def Made (w1 : World) (mode : Int) (n : Nat) (x y u : Nat) (wf : World) : Prop :=
 ∃ W, Below w1.heap.size w1 W ∧ W.heap[x]? = some (.cells (zeroS n) 115) ∧ W.heap[y]? = some (.cells (madeCells #[.bool false] n) 4) ∧ W.heap[u]? = some (.cells zeroP 83) ∧ x ≠ y ∧ x ≠ u ∧ y ≠ u ∧ w1.heap.size ≤ x ∧ w1.heap.size ≤ y ∧ w1.heap.size ≤ u ∧
  wf = W.setRow u (poolV mode (.slice (some ⟨x, 0, none⟩) n n) (.slice (some ⟨y, 0, none⟩) n n)).toArray
theorem Made.pmem {w1 wf : World} {mode : Int} {n x y u base : Nat} (h : Made w1 mode n x y u wf) (hn : n ≤ 8) (hb : base ≤ w1.heap.size) : PMem 0 wf base u (poolF mode (newSl x n) (newSl y n)) (startG u y) mode (Mach.start (poolStart n) n) ∧ Below w1.heap.size w1 wf := by
 obtain ⟨W, hB, hx, hy, hu, h1, h2, h3, l1, l2, l3, rfl⟩ := h
 have hrow : ∀ {g t : Nat} {cs : Array Value}, g ≠ u → W.heap[g]? = some (.cells cs t) → RowTo (W.setRow u (poolV mode (.slice (some ⟨x, 0, none⟩) n n) (.slice (some ⟨y, 0, none⟩) n n)).toArray) g t cs.size cs.toList := fun hg hc => ⟨_, (setRow_other W u _ _ hg).trans hc, rfl, by rw [List.take_of_length_le (by simp)]⟩
 have rS := hrow h2 hx
 have rB := hrow h3 hy
 have e1 : (zeroS n).size = n * 5 := by unfold zeroS; simp [madeCells]
 have e2 : (madeCells #[Value.bool false] n).size = n := by simp [madeCells]
 rw [e1] at rS
 rw [e2] at rB
 refine ⟨PMem.start hn mode rS rB ⟨_, setRow_heap W u zeroP _ _ _ hu, rfl, fun j hj => ?_⟩ h1 h2 h3 (by omega) (by omega), ?_⟩
 ·have hl : j < (poolV mode (.slice (some ⟨x, 0, none⟩) n n) (.slice (some ⟨y, 0, none⟩) n n)).length := hj
  rw [List.getElem?_toArray]
  unfold poolF newSl
  rw [List.getD_eq_getElem?_getD, List.getElem?_eq_getElem hl]
  rfl
 ·have hg := setRow_grown W u (poolV mode (.slice (some ⟨x, 0, none⟩) n n) (.slice (some ⟨y, 0, none⟩) n n)).toArray
  exact hB.grown hg hB.size (fun b hb => by injection hb with hb; omega)
theorem setup_of {mode s : Int} {l : List Act} (h : runE mode s l = 0) : 1 ≤ mode ∧ mode ≤ 3 ∧ 1 ≤ s ∧ s ≤ 4 ∧ l.length ≤ 300 ∧ actsE l = 0 := by
 unfold runE at h
 by_cases h0 : setupE mode s ≠ 0
 ·rw [if_pos h0] at h; exact absurd h h0
 ·rw [if_neg h0] at h
  have h0 : setupE mode s = 0 := Classical.byContradiction h0
  unfold setupE at h0
  by_cases h1 : mode < 1 ∨ 3 < mode
  ·rw [if_pos h1] at h0; cases h0
  ·rw [if_neg h1] at h0
   by_cases h2 : s < 1 ∨ 4 < s
   ·rw [if_pos h2] at h0; cases h0
   ·by_cases h3 : 300 < l.length
    ·rw [if_pos h3] at h; cases h
    ·rw [if_neg h3] at h
     exact ⟨by omega, by omega, by omega, by omega, by omega, h⟩
theorem run_take (o : Ops PE) (mode : Int) (m : Mach PE) {l : List Act} {k : Nat} (hk : k < l.length) : m.run o mode (l.take (k + 1)) = (m.run o mode (l.take k)).act o mode l[k] := by
 rw [List.take_succ_eq_append_getElem hk, run_app]; rfl
theorem acts_take {l : List Act} (h : actsE l = 0) (k : Nat) : actsE (l.take k) = 0 := by
 have : l = l.take k ++ l.drop k := (List.take_append_drop k l).symm
 rw [this] at h
 exact (actsE_app.1 h).1
theorem acts_at {l : List Act} (h : actsE l = 0) {k : Nat} (hk : k < l.length) : actE l[k] = 0 := by
 have h1 := acts_take h (k + 1)
 rw [List.take_succ_eq_append_getElem hk] at h1
 exact (actsE_cons (actsE_app.1 h1).2).1
def RunPost (w : World) (m : Mach PE) (e : Ending) (w' : World) : Prop := ∃ v1 v2 v3, e = .returned (.tuple #[.agg #[v1, v2, v3], .int .i64 0]) ∧ OutV w' v1 v2 v3 m.sent m.deeds m.e.w.rows ∧ Below w.heap.size w w'
def RunRel (w1 : World) (R P : Nat) (mode : Int) (m : Mach PE) (N : Nat) (wr : World) : Prop :=
 (∃ f G, PMem 0 wr w1.heap.size P f G mode m) ∧ Inv mode m N ∧ m.busy.length ≤ 8 ∧ Below w1.heap.size w1 wr
set_option maxHeartbeats 4000000 in
theorem run_any (mode srv : Int) (v : Value) (l : List Act) (w : World) (hl : ALst w w.heap.size v l) (hT : Tabs w w.heap.size) (hE : runE mode srv l = 0) :
  Calls Tryz.prog 7 #[.agg #[.int .i64 mode, .int .i64 srv], v] w (RunPost w ((Mach.start (poolStart srv.toNat) srv.toNat).run poolO mode l)) := by
 obtain ⟨hm1, hm3, hs1, hs4, hl300, hacts⟩ := setup_of hE
 obtain ⟨n, hn⟩ : ∃ n : Nat, srv = n := ⟨srv.toNat, by omega⟩
 subst hn
 rw [Int.toNat_natCast]
 have hn8 : n ≤ 8 := by omega
 have hn1 : 1 ≤ n := by omega
 have n0 := ((Below.refl w.heap.size w).alloc (nL _) (.cells #[.int .i64 mode, .int .i64 (n : Int)] 23)).alloc (by simp) (.cells #[.slice none 0 0, .slice none 0 0, .slice none 0 0] 29)
 have X1 := (RowTo.whole w #[.int .i64 mode, .int .i64 (n : Int)] 23).alloc (.cells #[.slice none 0 0, .slice none 0 0, .slice none 0 0] 29)
 have X2 := RowTo.whole (w.alloc (.cells #[.int .i64 mode, .int .i64 (n : Int)] 23)) #[.slice none 0 0, .slice none 0 0, .slice none 0 0] 29
 simp only [World.size_alloc] at X2
 obtain ⟨x0, x1⟩ := cells2 X1
 have HCR := jD (checkRun_any mode (n : Int) v l _ (hl.step n0))
 rw [hE] at HCR
 obtain ⟨A, cA, rfl, hcA⟩ := hl.form
 have HL := jD (hl.step n0)
 have HT := jD hT
 have HX := jD (And.intro X1 X2)
 have HN0 := jD n0
 have HAC := jD hacts
 have hz0 : ((w.alloc (.cells #[.int .i64 mode, .int .i64 (n : Int)] 23)).alloc (.cells #[.slice none 0 0, .slice none 0 0, .slice none 0 0] 29)).heap.size = w.heap.size + 1 + 1 := by simp
 clear hl hT hE hm1 hm3 hs1 hs4 n0 X1 X2 hacts
 go_enter Tryz.func7, Tryz.ntmps7
 go_wp2_with fail
 refine HCR.out.mono ?_
 rintro e w1 ⟨rfl, hb1⟩
 have hX1 := HX.out.1.below hb1 HX.out.1.lt
 have hX2 := HX.out.2.below hb1 HX.out.2.lt
 have hbw := bel_add' HN0.out hb1 HN0.out.size
 have hsz1 : w.heap.size + 1 + 1 ≤ w1.heap.size := by have := hb1.size; omega
 have hl1 := HL.out.step hb1
 obtain ⟨y0, y1⟩ := cells2 hX1
 have HX2 := jD hX2
 have HBW := jD hbw
 have HL1 := jD hl1
 have hXl : w.heap.size < w1.heap.size := by omega
 have HT1 := jD ((HT.out.below hbw).up hbw.size)
 have hmk1 : ∀ w : World, (Instr.makeSlice 37 (.int .i64 (n : Int)) (.int .i64 (n : Int))).run Tryz.prog w = .ok (.slice (some ⟨w.heap.size, 0, none⟩) n n) (w.alloc (.cells (zeroS n) 115)) := fun w => make_sess n (by omega) w
 have hmk2 := make_bool n hn8
 clear hb1 hX1 hX2 hbw hl1 HCR HX HN0 HL x0 x1 hz0 HT
 go_wp2_with fail
 refine wp_region_z 11 (fun wx => wx.cell? ⟨w.heap.size, 0, none⟩ = some (.int .i64 mode) ∧ wx.cell? ⟨w.heap.size, 1, none⟩ = some (.int .i64 (n : Int))) (by kernel_rfl) (show w1.drew.cell? ⟨w.heap.size, 0, none⟩ = some (.int .i64 mode) ∧ w1.drew.cell? ⟨w.heap.size, 1, none⟩ = some (.int .i64 (n : Int)) from ⟨y0, y1⟩) (fun hS => ?_)
 refine tkE [(0, [1]), (1, []), (2, [3]), (3, []), (6, [7]), (7, [])] ?_
 iterate 6
  refine tkS (v := ?_) hS ?_ ?_
  rotate_left
  ·(intro w hSw; (try dsimp only at hSw); (try simp only [gTA, gCZ, gCS]); go_simp; try with_reducible rfl)
  (try simp only [gTA, gCZ, gCS, Act.put, sTA, sCZ, sCS])
 refine tkF ?_
 refine wpAnyZ_share (Made w1 mode n) (fun x => .slice (some ⟨x, 0, none⟩) n n) (fun x => .agg #[.slice none 0 0, .slice (some ⟨x, 0, none⟩) n n]) (fun x => .slice (some ⟨x, 0, none⟩) n n) (fun x => .pointer (some ⟨x, 0, none⟩)) (fun x y => .agg (poolV mode (.slice (some ⟨x, 0, none⟩) n n) (.slice (some ⟨y, 0, none⟩) n n)).toArray) ?fin (fun HK => ?tree)
 case fin =>
  intro bS bB P wf hF
  (try simp only [gTA, gCZ, gCS, Act.put, sTA, sCZ, sCS])
  obtain ⟨hM0, hB0⟩ := hF.pmem hn8 (nL w1.heap.size)
  have HR0 : Hid (RunRel w1 (w.heap.size + 1) P mode (Mach.start (poolStart n) n) 0 wf) := jD ⟨⟨_, _, hM0⟩, Inv.start hn8, by simp [Mach.start]; omega, hB0⟩
  clear hM0 hB0 hF hmk1 hmk2 hS
  generalize hm0 : Mach.start (poolStart n) n = m0 at *
  clear hm0
  go_wp2_with fail
  go_loopw [29] (fun i wr => ∃ k : Nat, k ≤ l.length ∧ i = .int .i64 k ∧ Hid (RunRel w1 (w.heap.size + 1) P mode (m0.run poolO mode (l.take k)) (1000 * k) wr)) (fun i _ => l.length - (intOf i).toNat)
  case atStart => exact ⟨0, by omega, rfl, HR0.out⟩
  case round =>
   obtain ⟨k, hk, rfl, HZ⟩ := hrel
   clear HR0
   by_cases hlt : k < l.length
   ·obtain ⟨⟨f, G, hM⟩, hI, hb8, hB⟩ := HZ.out
    have hA := HL1.out.below hB
    obtain ⟨b, off, rfl, hbl, c0, c1, c2⟩ := hA.pt hlt
    have hbr : b < wr.heap.size := Nat.lt_of_lt_of_le hbl hB.size
    have n1 := (Below.refl wr.heap.size wr).alloc (nL _) (.cells #[.int .i64 l[k].kind, .int .i64 l[k].c, .string l[k].data] 54)
    have hM1 := hM.below n1
    have hbase : w1.heap.size ≤ wr.heap.size := hB.size
    have hB1 := hB.trans (n1.mono hbase)
    have HP := jD (perform_any _ hM1 (HT1.out.below hB1) hI (by omega) l[k] (acts_at HAC.out hlt) hb8)
    rw [← run_take poolO mode m0 hlt] at HP
    have HI2 := jD (show Inv mode (m0.run poolO mode (l.take (k + 1))) (1000 * (k + 1)) by rw [run_take poolO mode m0 hlt]; exact (hI.act (acts_at HAC.out hlt)).mono (by omega))
    have hb82 : (m0.run poolO mode (l.take (k + 1))).busy.length ≤ 8 := by rw [run_take poolO mode m0 hlt, act_len]; exact hb8
    have HB1 := jD hB1
    have hkI : (k : Int) < (l.length : Int) := by omega
    unfold ptr at HP
    clear hM hI hB hA n1 hM1 hB1 HZ
    obtain ⟨m2, HM2⟩ : ∃ u, Hid (m0.run poolO mode (l.take (k + 1)) = u) := ⟨_, jD rfl⟩
    rw [HM2.out] at HP HI2 hb82
    generalize l[k].kind = ak at *
    generalize l[k].c = ac at *
    generalize l[k].data = ad at *
    go_wp2_with fail
    refine HP.out.mono ?_
    rintro e w3 ⟨f3, G3, rfl, hM3, hB3⟩
    have HF : Hid (RunRel w1 (w.heap.size + 1) P mode m2 (1000 * (k + 1)) w3) := jD ⟨⟨f3, G3, hM3⟩, HI2.out, hb82, HB1.out.trans hB3⟩
    clear hM3 hB3 HP
    go_wp2
    go_roundw
    case rel => exact ⟨k + 1, by omega, by go_num, by rw [HM2.out]; exact HF.out⟩
    case measure => simp [intOf]; omega
   ·obtain rfl : k = l.length := by omega
    obtain ⟨⟨f, G, hM⟩, hI, hb8, hB⟩ := HZ.out
    rw [List.take_length] at hM hI
    have HO := jD (outcome_any wr hM hI (by omega))
    have HB := jD hB
    have hbase : w1.heap.size ≤ wr.heap.size := hB.size
    have hRr := HX2.out.below hB (by omega)
    have HRr := jD hRr
    generalize m0.run poolO mode l = m2 at *
    unfold ptr at HO
    clear hM hI hB hRr HZ
    go_wp2_with fail
    refine HO.out.mono ?_
    rintro e w3 ⟨v1, v2, v3, rfl, hO, hB3⟩
    obtain ⟨A1, s1, rfl, _⟩ := hO.s.form
    obtain ⟨A2, s2, rfl, _⟩ := hO.d.form
    obtain ⟨A3, s3, rfl, _⟩ := hO.r.form
    have hR3 := HRr.out.below hB3 HRr.out.lt
    obtain ⟨r0, r1, r2⟩ := cells3 hR3
    have z0 := hR3.frozen 0
    have z1 := hR3.frozen 1
    have z2 := hR3.frozen 2
    have hRl := hR3.lt
    have hbel := HBW.out.trans ((HB.out.trans (hB3.mono hbase)).mono (show w.heap.size ≤ w1.heap.size by omega))
    have hBf := ((hbel.setCell (p := ⟨w.heap.size + 1, 0, none⟩) (by show w.heap.size ≤ w.heap.size + 1; omega) (.slice A1 m2.sent.length s1)).setCell (p := ⟨w.heap.size + 1, 1, none⟩) (by show w.heap.size ≤ w.heap.size + 1; omega) (.slice A2 m2.deeds.length s2)).setCell (p := ⟨w.heap.size + 1, 2, none⟩) (by show w.heap.size ≤ w.heap.size + 1; omega) (.slice A3 m2.e.w.rows.length s3)
    have hOff := OutV.off3 hO hR3 (.slice A1 m2.sent.length s1) (.slice A2 m2.deeds.length s2) (.slice A3 m2.e.w.rows.length s3)
    have hRf := ((hR3.put (j := 0) (by simp) (.slice A1 m2.sent.length s1)).put (j := 1) (by simp) (.slice A2 m2.deeds.length s2)).put (j := 2) (by simp) (.slice A3 m2.e.w.rows.length s3)
    have HF := jD (And.intro hOff (And.intro hBf hRf))
    clear hOff hBf hRf hbel hR3 hO hB3 HO
    generalize m2.sent.length = e1 at *
    generalize m2.deeds.length = e2 at *
    generalize m2.e.w.rows.length = e3 at *
    go_wp2
    obtain ⟨hO, hBB, hRow⟩ := HF.out
    obtain ⟨t0, t1, t2⟩ := cells3 hRow
    generalize ((w3.setCell ⟨w.heap.size + 1, 0, none⟩ (.slice A1 e1 s1)).setCell ⟨w.heap.size + 1, 1, none⟩ (.slice A2 e2 s2)).setCell ⟨w.heap.size + 1, 2, none⟩ (.slice A3 e3 s3) = WF at *
    refine bodyPost_ret (v := .tuple #[.agg #[.slice A1 e1 s1, .slice A2 e2 s2, .slice A3 e3 s3], .int .i64 0]) (by simp [results, Tryz.results7, go_sem, t0, t1, t2]) rfl ⟨_, _, _, rfl, hO, hBB⟩
 case tree =>
  refine wpAnyZ_many (is := [4, 8, 10]) (by kernel_rfl) (by simp) (fun i hi => ?_)
  simp only [List.mem_cons, List.not_mem_nil, or_false] at hi
  rcases hi with rfl | rfl | rfl
  ·refine ⟨_, rfl, rfl, fun K hK => ?_⟩
   (try simp only [gTA, gCZ, gCS])
   go_simp
   have hS2 := (show (w1.drew.alloc (.cells (zeroS n) 115)).cell? ⟨w.heap.size, 0, none⟩ = some (.int .i64 mode) ∧ (w1.drew.alloc (.cells (zeroS n) 115)).cell? ⟨w.heap.size, 1, none⟩ = some (.int .i64 (n : Int)) from ⟨((((Below.refl w1.heap.size w1).drew).alloc (by simp) (.cells (zeroS n) 115)).cell (p := ⟨w.heap.size, 0, none⟩) hXl).trans y0, ((((Below.refl w1.heap.size w1).drew).alloc (by simp) (.cells (zeroS n) 115)).cell (p := ⟨w.heap.size, 1, none⟩) hXl).trans y1⟩)
   refine hK.out _ _ hS2 ?_
   clear hK K hS
   have hS := hS2
   clear hS2
   (try simp only [gTA, gCZ, gCS, Act.put, sTA, sCZ, sCS])
   refine wpAnyZ_take2 (i := 5) [9] (v := ?vts5) rfl (by kernel_rfl) (by kernel_rfl) (by kernel_rfl) (by kernel_rfl) (fun _ _ _ h => h) (Or.inl ⟨by rfl, ?yts5⟩) hS ?rts5
   case yts5 => (intro w hSw; (try dsimp only at hSw); (try simp only [gTA, gCZ, gCS]); go_simp; try with_reducible rfl)
   (try simp only [gTA, gCZ, gCS, Act.put, sTA, sCZ, sCS])
   refine wpAnyZ_many (is := [8, 10]) (by kernel_rfl) (by simp) (fun i hi => ?_)
   simp only [List.mem_cons, List.not_mem_nil, or_false] at hi
   rcases hi with rfl | rfl
   ·refine ⟨_, rfl, rfl, fun K hK => ?_⟩
    (try simp only [gTA, gCZ, gCS])
    go_simp
    have hS2 := (show ((w1.drew.alloc (.cells (zeroS n) 115)).alloc (.cells (madeCells #[.bool false] n) 4)).cell? ⟨w.heap.size, 0, none⟩ = some (.int .i64 mode) ∧ ((w1.drew.alloc (.cells (zeroS n) 115)).alloc (.cells (madeCells #[.bool false] n) 4)).cell? ⟨w.heap.size, 1, none⟩ = some (.int .i64 (n : Int)) from ⟨(((((Below.refl w1.heap.size w1).drew).alloc (by simp) (.cells (zeroS n) 115)).alloc (by simp) (.cells (madeCells #[.bool false] n) 4)).cell (p := ⟨w.heap.size, 0, none⟩) hXl).trans y0, (((((Below.refl w1.heap.size w1).drew).alloc (by simp) (.cells (zeroS n) 115)).alloc (by simp) (.cells (madeCells #[.bool false] n) 4)).cell (p := ⟨w.heap.size, 1, none⟩) hXl).trans y1⟩)
    refine hK.out _ _ hS2 ?_
    clear hK K hS
    have hS := hS2
    clear hS2
    (try simp only [gTA, gCZ, gCS, Act.put, sTA, sCZ, sCS])
    refine wpAnyZ_take (i := 9) (v := .agg (poolV mode (.slice (some ⟨w1.heap.size, 0, none⟩) n n) (.slice (some ⟨w1.heap.size + 1, 0, none⟩) n n)).toArray) rfl (by kernel_rfl) (by kernel_rfl) (by kernel_rfl) (by kernel_rfl) (fun _ _ _ h => h) (Or.inl ⟨by rfl, ?yusb9⟩) hS ?rusb9
    case yusb9 => exact fun w _ => exec_pool rfl rfl rfl rfl w
    (try simp only [gTA, gCZ, gCS, Act.put, sTA, sCZ, sCS])
    refine wpAnyZ_one (i := 10) rfl rfl (by kernel_rfl) (fun K hK => ?_)
    (try simp only [gTA, gCZ, gCS])
    go_simp
    have hS2 := (show (((w1.drew.alloc (.cells (zeroS n) 115)).alloc (.cells (madeCells #[.bool false] n) 4)).alloc (.cells zeroP 83)).cell? ⟨w.heap.size, 0, none⟩ = some (.int .i64 mode) ∧ (((w1.drew.alloc (.cells (zeroS n) 115)).alloc (.cells (madeCells #[.bool false] n) 4)).alloc (.cells zeroP 83)).cell? ⟨w.heap.size, 1, none⟩ = some (.int .i64 (n : Int)) from ⟨((((((Below.refl w1.heap.size w1).drew).alloc (by simp) (.cells (zeroS n) 115)).alloc (by simp) (.cells (madeCells #[.bool false] n) 4)).alloc (by simp; omega) (.cells zeroP 83)).cell (p := ⟨w.heap.size, 0, none⟩) hXl).trans y0, ((((((Below.refl w1.heap.size w1).drew).alloc (by simp) (.cells (zeroS n) 115)).alloc (by simp) (.cells (madeCells #[.bool false] n) 4)).alloc (by simp; omega) (.cells zeroP 83)).cell (p := ⟨w.heap.size, 1, none⟩) hXl).trans y1⟩)
    refine hK.out _ _ hS2 ?_
    clear hK K hS
    have hS := hS2
    clear hS2
    (try simp only [gTA, gCZ, gCS, Act.put, sTA, sCZ, sCS])
    refine wpAnyZ_last rfl rfl (by kernel_rfl) (by kernel_rfl) (fun K hK => ?_)
    (try simp only [gTA, gCZ, gCS])
    obtain ⟨g1, g2, g3, gB⟩ := three w1.drew (zeroS n) (madeCells #[.bool false] n) zeroP 115 4 83
    have hgP : ((((w1.drew.alloc (.cells (zeroS n) 115)).alloc (.cells (madeCells #[.bool false] n) 4)).alloc (.cells zeroP 83))).heap[w1.heap.size + 1 + 1]? = some (.cells zeroP 83) := g3
    refine wp_store_row 83 _ _ rfl (w1.heap.size + 1 + 1) (poolV mode (.slice (some ⟨w1.heap.size, 0, none⟩) n n) (.slice (some ⟨w1.heap.size + 1, 0, none⟩) n n)).toArray rfl rfl 83 zeroP hgP pool_size rfl (poolV_one mode _ _ n) ?_
    refine hK.out _ _ ?_
    clear hK K
    (try simp only [gTA, gCZ, gCS, Act.put, sTA, sCZ, sCS])
    have hk := HK.out (w1.heap.size) (w1.heap.size + 1) (w1.heap.size + 1 + 1) _ ⟨_, ((Below.refl w1.heap.size w1).drew).trans gB, g1, g2, hgP, by omega, by omega, by omega, by omega, by omega, by omega, rfl⟩
    (try simp only [gTA, gCZ, gCS, Act.put, sTA, sCZ, sCS] at hk)
    exact hk
   ·refine ⟨_, rfl, rfl, fun K hK => ?_⟩
    (try simp only [gTA, gCZ, gCS])
    go_simp
    have hS2 := (show ((w1.drew.alloc (.cells (zeroS n) 115)).alloc (.cells zeroP 83)).cell? ⟨w.heap.size, 0, none⟩ = some (.int .i64 mode) ∧ ((w1.drew.alloc (.cells (zeroS n) 115)).alloc (.cells zeroP 83)).cell? ⟨w.heap.size, 1, none⟩ = some (.int .i64 (n : Int)) from ⟨(((((Below.refl w1.heap.size w1).drew).alloc (by simp) (.cells (zeroS n) 115)).alloc (by simp) (.cells zeroP 83)).cell (p := ⟨w.heap.size, 0, none⟩) hXl).trans y0, (((((Below.refl w1.heap.size w1).drew).alloc (by simp) (.cells (zeroS n) 115)).alloc (by simp) (.cells zeroP 83)).cell (p := ⟨w.heap.size, 1, none⟩) hXl).trans y1⟩)
    refine hK.out _ _ hS2 ?_
    clear hK K hS
    have hS := hS2
    clear hS2
    (try simp only [gTA, gCZ, gCS, Act.put, sTA, sCZ, sCS])
    refine wpAnyZ_one (i := 8) rfl rfl (by kernel_rfl) (fun K hK => ?_)
    (try simp only [gTA, gCZ, gCS])
    go_simp
    have hS2 := (show (((w1.drew.alloc (.cells (zeroS n) 115)).alloc (.cells zeroP 83)).alloc (.cells (madeCells #[.bool false] n) 4)).cell? ⟨w.heap.size, 0, none⟩ = some (.int .i64 mode) ∧ (((w1.drew.alloc (.cells (zeroS n) 115)).alloc (.cells zeroP 83)).alloc (.cells (madeCells #[.bool false] n) 4)).cell? ⟨w.heap.size, 1, none⟩ = some (.int .i64 (n : Int)) from ⟨((((((Below.refl w1.heap.size w1).drew).alloc (by simp) (.cells (zeroS n) 115)).alloc (by simp) (.cells zeroP 83)).alloc (by simp; omega) (.cells (madeCells #[.bool false] n) 4)).cell (p := ⟨w.heap.size, 0, none⟩) hXl).trans y0, ((((((Below.refl w1.heap.size w1).drew).alloc (by simp) (.cells (zeroS n) 115)).alloc (by simp) (.cells zeroP 83)).alloc (by simp; omega) (.cells (madeCells #[.bool false] n) 4)).cell (p := ⟨w.heap.size, 1, none⟩) hXl).trans y1⟩)
    refine hK.out _ _ hS2 ?_
    clear hK K hS
    have hS := hS2
    clear hS2
    (try simp only [gTA, gCZ, gCS, Act.put, sTA, sCZ, sCS])
    refine wpAnyZ_take (i := 9) (v := .agg (poolV mode (.slice (some ⟨w1.heap.size, 0, none⟩) n n) (.slice (some ⟨w1.heap.size + 1 + 1, 0, none⟩) n n)).toArray) rfl (by kernel_rfl) (by kernel_rfl) (by kernel_rfl) (by kernel_rfl) (fun _ _ _ h => h) (Or.inl ⟨by rfl, ?yuspb9⟩) hS ?ruspb9
    case yuspb9 => exact fun w _ => exec_pool rfl rfl rfl rfl w
    (try simp only [gTA, gCZ, gCS, Act.put, sTA, sCZ, sCS])
    refine wpAnyZ_last rfl rfl (by kernel_rfl) (by kernel_rfl) (fun K hK => ?_)
    (try simp only [gTA, gCZ, gCS])
    obtain ⟨g1, g2, g3, gB⟩ := three w1.drew (zeroS n) zeroP (madeCells #[.bool false] n) 115 83 4
    have hgP : ((((w1.drew.alloc (.cells (zeroS n) 115)).alloc (.cells zeroP 83)).alloc (.cells (madeCells #[.bool false] n) 4))).heap[w1.heap.size + 1]? = some (.cells zeroP 83) := g2
    refine wp_store_row 83 _ _ rfl (w1.heap.size + 1) (poolV mode (.slice (some ⟨w1.heap.size, 0, none⟩) n n) (.slice (some ⟨w1.heap.size + 1 + 1, 0, none⟩) n n)).toArray rfl rfl 83 zeroP hgP pool_size rfl (poolV_one mode _ _ n) ?_
    refine hK.out _ _ ?_
    clear hK K
    (try simp only [gTA, gCZ, gCS, Act.put, sTA, sCZ, sCS])
    have hk := HK.out (w1.heap.size) (w1.heap.size + 1 + 1) (w1.heap.size + 1) _ ⟨_, ((Below.refl w1.heap.size w1).drew).trans gB, g1, g3, hgP, by omega, by omega, by omega, by omega, by omega, by omega, rfl⟩
    (try simp only [gTA, gCZ, gCS, Act.put, sTA, sCZ, sCS] at hk)
    exact hk
  ·refine ⟨_, rfl, rfl, fun K hK => ?_⟩
   (try simp only [gTA, gCZ, gCS])
   go_simp
   have hS2 := (show (w1.drew.alloc (.cells (madeCells #[.bool false] n) 4)).cell? ⟨w.heap.size, 0, none⟩ = some (.int .i64 mode) ∧ (w1.drew.alloc (.cells (madeCells #[.bool false] n) 4)).cell? ⟨w.heap.size, 1, none⟩ = some (.int .i64 (n : Int)) from ⟨((((Below.refl w1.heap.size w1).drew).alloc (by simp) (.cells (madeCells #[.bool false] n) 4)).cell (p := ⟨w.heap.size, 0, none⟩) hXl).trans y0, ((((Below.refl w1.heap.size w1).drew).alloc (by simp) (.cells (madeCells #[.bool false] n) 4)).cell (p := ⟨w.heap.size, 1, none⟩) hXl).trans y1⟩)
   refine hK.out _ _ hS2 ?_
   clear hK K hS
   have hS := hS2
   clear hS2
   (try simp only [gTA, gCZ, gCS, Act.put, sTA, sCZ, sCS])
   refine wpAnyZ_many (is := [4, 10]) (by kernel_rfl) (by simp) (fun i hi => ?_)
   simp only [List.mem_cons, List.not_mem_nil, or_false] at hi
   rcases hi with rfl | rfl
   ·refine ⟨_, rfl, rfl, fun K hK => ?_⟩
    (try simp only [gTA, gCZ, gCS])
    go_simp
    have hS2 := (show ((w1.drew.alloc (.cells (madeCells #[.bool false] n) 4)).alloc (.cells (zeroS n) 115)).cell? ⟨w.heap.size, 0, none⟩ = some (.int .i64 mode) ∧ ((w1.drew.alloc (.cells (madeCells #[.bool false] n) 4)).alloc (.cells (zeroS n) 115)).cell? ⟨w.heap.size, 1, none⟩ = some (.int .i64 (n : Int)) from ⟨(((((Below.refl w1.heap.size w1).drew).alloc (by simp) (.cells (madeCells #[.bool false] n) 4)).alloc (by simp) (.cells (zeroS n) 115)).cell (p := ⟨w.heap.size, 0, none⟩) hXl).trans y0, (((((Below.refl w1.heap.size w1).drew).alloc (by simp) (.cells (madeCells #[.bool false] n) 4)).alloc (by simp) (.cells (zeroS n) 115)).cell (p := ⟨w.heap.size, 1, none⟩) hXl).trans y1⟩)
    refine hK.out _ _ hS2 ?_
    clear hK K hS
    have hS := hS2
    clear hS2
    (try simp only [gTA, gCZ, gCS, Act.put, sTA, sCZ, sCS])
    refine wpAnyZ_take2 (i := 5) [9] (v := ?vtbs5) rfl (by kernel_rfl) (by kernel_rfl) (by kernel_rfl) (by kernel_rfl) (fun _ _ _ h => h) (Or.inl ⟨by rfl, ?ytbs5⟩) hS ?rtbs5
    case ytbs5 => (intro w hSw; (try dsimp only at hSw); (try simp only [gTA, gCZ, gCS]); go_simp; try with_reducible rfl)
    (try simp only [gTA, gCZ, gCS, Act.put, sTA, sCZ, sCS])
    refine wpAnyZ_take (i := 9) (v := .agg (poolV mode (.slice (some ⟨w1.heap.size + 1, 0, none⟩) n n) (.slice (some ⟨w1.heap.size, 0, none⟩) n n)).toArray) rfl (by kernel_rfl) (by kernel_rfl) (by kernel_rfl) (by kernel_rfl) (fun _ _ _ h => h) (Or.inl ⟨by rfl, ?yubs9⟩) hS ?rubs9
    case yubs9 => exact fun w _ => exec_pool rfl rfl rfl rfl w
    (try simp only [gTA, gCZ, gCS, Act.put, sTA, sCZ, sCS])
    refine wpAnyZ_one (i := 10) rfl rfl (by kernel_rfl) (fun K hK => ?_)
    (try simp only [gTA, gCZ, gCS])
    go_simp
    have hS2 := (show (((w1.drew.alloc (.cells (madeCells #[.bool false] n) 4)).alloc (.cells (zeroS n) 115)).alloc (.cells zeroP 83)).cell? ⟨w.heap.size, 0, none⟩ = some (.int .i64 mode) ∧ (((w1.drew.alloc (.cells (madeCells #[.bool false] n) 4)).alloc (.cells (zeroS n) 115)).alloc (.cells zeroP 83)).cell? ⟨w.heap.size, 1, none⟩ = some (.int .i64 (n : Int)) from ⟨((((((Below.refl w1.heap.size w1).drew).alloc (by simp) (.cells (madeCells #[.bool false] n) 4)).alloc (by simp) (.cells (zeroS n) 115)).alloc (by simp; omega) (.cells zeroP 83)).cell (p := ⟨w.heap.size, 0, none⟩) hXl).trans y0, ((((((Below.refl w1.heap.size w1).drew).alloc (by simp) (.cells (madeCells #[.bool false] n) 4)).alloc (by simp) (.cells (zeroS n) 115)).alloc (by simp; omega) (.cells zeroP 83)).cell (p := ⟨w.heap.size, 1, none⟩) hXl).trans y1⟩)
    refine hK.out _ _ hS2 ?_
    clear hK K hS
    have hS := hS2
    clear hS2
    (try simp only [gTA, gCZ, gCS, Act.put, sTA, sCZ, sCS])
    refine wpAnyZ_last rfl rfl (by kernel_rfl) (by kernel_rfl) (fun K hK => ?_)
    (try simp only [gTA, gCZ, gCS])
    obtain ⟨g1, g2, g3, gB⟩ := three w1.drew (madeCells #[.bool false] n) (zeroS n) zeroP 4 115 83
    have hgP : ((((w1.drew.alloc (.cells (madeCells #[.bool false] n) 4)).alloc (.cells (zeroS n) 115)).alloc (.cells zeroP 83))).heap[w1.heap.size + 1 + 1]? = some (.cells zeroP 83) := g3
    refine wp_store_row 83 _ _ rfl (w1.heap.size + 1 + 1) (poolV mode (.slice (some ⟨w1.heap.size + 1, 0, none⟩) n n) (.slice (some ⟨w1.heap.size, 0, none⟩) n n)).toArray rfl rfl 83 zeroP hgP pool_size rfl (poolV_one mode _ _ n) ?_
    refine hK.out _ _ ?_
    clear hK K
    (try simp only [gTA, gCZ, gCS, Act.put, sTA, sCZ, sCS])
    have hk := HK.out (w1.heap.size + 1) (w1.heap.size) (w1.heap.size + 1 + 1) _ ⟨_, ((Below.refl w1.heap.size w1).drew).trans gB, g2, g1, hgP, by omega, by omega, by omega, by omega, by omega, by omega, rfl⟩
    (try simp only [gTA, gCZ, gCS, Act.put, sTA, sCZ, sCS] at hk)
    exact hk
   ·refine ⟨_, rfl, rfl, fun K hK => ?_⟩
    (try simp only [gTA, gCZ, gCS])
    go_simp
    have hS2 := (show ((w1.drew.alloc (.cells (madeCells #[.bool false] n) 4)).alloc (.cells zeroP 83)).cell? ⟨w.heap.size, 0, none⟩ = some (.int .i64 mode) ∧ ((w1.drew.alloc (.cells (madeCells #[.bool false] n) 4)).alloc (.cells zeroP 83)).cell? ⟨w.heap.size, 1, none⟩ = some (.int .i64 (n : Int)) from ⟨(((((Below.refl w1.heap.size w1).drew).alloc (by simp) (.cells (madeCells #[.bool false] n) 4)).alloc (by simp) (.cells zeroP 83)).cell (p := ⟨w.heap.size, 0, none⟩) hXl).trans y0, (((((Below.refl w1.heap.size w1).drew).alloc (by simp) (.cells (madeCells #[.bool false] n) 4)).alloc (by simp) (.cells zeroP 83)).cell (p := ⟨w.heap.size, 1, none⟩) hXl).trans y1⟩)
    refine hK.out _ _ hS2 ?_
    clear hK K hS
    have hS := hS2
    clear hS2
    (try simp only [gTA, gCZ, gCS, Act.put, sTA, sCZ, sCS])
    refine wpAnyZ_one (i := 4) rfl rfl (by kernel_rfl) (fun K hK => ?_)
    (try simp only [gTA, gCZ, gCS])
    go_simp
    have hS2 := (show (((w1.drew.alloc (.cells (madeCells #[.bool false] n) 4)).alloc (.cells zeroP 83)).alloc (.cells (zeroS n) 115)).cell? ⟨w.heap.size, 0, none⟩ = some (.int .i64 mode) ∧ (((w1.drew.alloc (.cells (madeCells #[.bool false] n) 4)).alloc (.cells zeroP 83)).alloc (.cells (zeroS n) 115)).cell? ⟨w.heap.size, 1, none⟩ = some (.int .i64 (n : Int)) from ⟨((((((Below.refl w1.heap.size w1).drew).alloc (by simp) (.cells (madeCells #[.bool false] n) 4)).alloc (by simp) (.cells zeroP 83)).alloc (by simp; omega) (.cells (zeroS n) 115)).cell (p := ⟨w.heap.size, 0, none⟩) hXl).trans y0, ((((((Below.refl w1.heap.size w1).drew).alloc (by simp) (.cells (madeCells #[.bool false] n) 4)).alloc (by simp) (.cells zeroP 83)).alloc (by simp; omega) (.cells (zeroS n) 115)).cell (p := ⟨w.heap.size, 1, none⟩) hXl).trans y1⟩)
    refine hK.out _ _ hS2 ?_
    clear hK K hS
    have hS := hS2
    clear hS2
    (try simp only [gTA, gCZ, gCS, Act.put, sTA, sCZ, sCS])
    refine wpAnyZ_take2 (i := 5) [9] (v := ?vtbps5) rfl (by kernel_rfl) (by kernel_rfl) (by kernel_rfl) (by kernel_rfl) (fun _ _ _ h => h) (Or.inl ⟨by rfl, ?ytbps5⟩) hS ?rtbps5
    case ytbps5 => (intro w hSw; (try dsimp only at hSw); (try simp only [gTA, gCZ, gCS]); go_simp; try with_reducible rfl)
    (try simp only [gTA, gCZ, gCS, Act.put, sTA, sCZ, sCS])
    refine wpAnyZ_take (i := 9) (v := .agg (poolV mode (.slice (some ⟨w1.heap.size + 1 + 1, 0, none⟩) n n) (.slice (some ⟨w1.heap.size, 0, none⟩) n n)).toArray) rfl (by kernel_rfl) (by kernel_rfl) (by kernel_rfl) (by kernel_rfl) (fun _ _ _ h => h) (Or.inl ⟨by rfl, ?yubps9⟩) hS ?rubps9
    case yubps9 => exact fun w _ => exec_pool rfl rfl rfl rfl w
    (try simp only [gTA, gCZ, gCS, Act.put, sTA, sCZ, sCS])
    refine wpAnyZ_last rfl rfl (by kernel_rfl) (by kernel_rfl) (fun K hK => ?_)
    (try simp only [gTA, gCZ, gCS])
    obtain ⟨g1, g2, g3, gB⟩ := three w1.drew (madeCells #[.bool false] n) zeroP (zeroS n) 4 83 115
    have hgP : ((((w1.drew.alloc (.cells (madeCells #[.bool false] n) 4)).alloc (.cells zeroP 83)).alloc (.cells (zeroS n) 115))).heap[w1.heap.size + 1]? = some (.cells zeroP 83) := g2
    refine wp_store_row 83 _ _ rfl (w1.heap.size + 1) (poolV mode (.slice (some ⟨w1.heap.size + 1 + 1, 0, none⟩) n n) (.slice (some ⟨w1.heap.size, 0, none⟩) n n)).toArray rfl rfl 83 zeroP hgP pool_size rfl (poolV_one mode _ _ n) ?_
    refine hK.out _ _ ?_
    clear hK K
    (try simp only [gTA, gCZ, gCS, Act.put, sTA, sCZ, sCS])
    have hk := HK.out (w1.heap.size + 1 + 1) (w1.heap.size) (w1.heap.size + 1) _ ⟨_, ((Below.refl w1.heap.size w1).drew).trans gB, g3, g1, hgP, by omega, by omega, by omega, by omega, by omega, by omega, rfl⟩
    (try simp only [gTA, gCZ, gCS, Act.put, sTA, sCZ, sCS] at hk)
    exact hk
  ·refine ⟨_, rfl, rfl, fun K hK => ?_⟩
   (try simp only [gTA, gCZ, gCS])
   go_simp
   have hS2 := (show (w1.drew.alloc (.cells zeroP 83)).cell? ⟨w.heap.size, 0, none⟩ = some (.int .i64 mode) ∧ (w1.drew.alloc (.cells zeroP 83)).cell? ⟨w.heap.size, 1, none⟩ = some (.int .i64 (n : Int)) from ⟨((((Below.refl w1.heap.size w1).drew).alloc (by simp) (.cells zeroP 83)).cell (p := ⟨w.heap.size, 0, none⟩) hXl).trans y0, ((((Below.refl w1.heap.size w1).drew).alloc (by simp) (.cells zeroP 83)).cell (p := ⟨w.heap.size, 1, none⟩) hXl).trans y1⟩)
   refine hK.out _ _ hS2 ?_
   clear hK K hS
   have hS := hS2
   clear hS2
   (try simp only [gTA, gCZ, gCS, Act.put, sTA, sCZ, sCS])
   refine wpAnyZ_many (is := [4, 8]) (by kernel_rfl) (by simp) (fun i hi => ?_)
   simp only [List.mem_cons, List.not_mem_nil, or_false] at hi
   rcases hi with rfl | rfl
   ·refine ⟨_, rfl, rfl, fun K hK => ?_⟩
    (try simp only [gTA, gCZ, gCS])
    go_simp
    have hS2 := (show ((w1.drew.alloc (.cells zeroP 83)).alloc (.cells (zeroS n) 115)).cell? ⟨w.heap.size, 0, none⟩ = some (.int .i64 mode) ∧ ((w1.drew.alloc (.cells zeroP 83)).alloc (.cells (zeroS n) 115)).cell? ⟨w.heap.size, 1, none⟩ = some (.int .i64 (n : Int)) from ⟨(((((Below.refl w1.heap.size w1).drew).alloc (by simp) (.cells zeroP 83)).alloc (by simp) (.cells (zeroS n) 115)).cell (p := ⟨w.heap.size, 0, none⟩) hXl).trans y0, (((((Below.refl w1.heap.size w1).drew).alloc (by simp) (.cells zeroP 83)).alloc (by simp) (.cells (zeroS n) 115)).cell (p := ⟨w.heap.size, 1, none⟩) hXl).trans y1⟩)
    refine hK.out _ _ hS2 ?_
    clear hK K hS
    have hS := hS2
    clear hS2
    (try simp only [gTA, gCZ, gCS, Act.put, sTA, sCZ, sCS])
    refine wpAnyZ_take2 (i := 5) [9] (v := ?vtps5) rfl (by kernel_rfl) (by kernel_rfl) (by kernel_rfl) (by kernel_rfl) (fun _ _ _ h => h) (Or.inl ⟨by rfl, ?ytps5⟩) hS ?rtps5
    case ytps5 => (intro w hSw; (try dsimp only at hSw); (try simp only [gTA, gCZ, gCS]); go_simp; try with_reducible rfl)
    (try simp only [gTA, gCZ, gCS, Act.put, sTA, sCZ, sCS])
    refine wpAnyZ_one (i := 8) rfl rfl (by kernel_rfl) (fun K hK => ?_)
    (try simp only [gTA, gCZ, gCS])
    go_simp
    have hS2 := (show (((w1.drew.alloc (.cells zeroP 83)).alloc (.cells (zeroS n) 115)).alloc (.cells (madeCells #[.bool false] n) 4)).cell? ⟨w.heap.size, 0, none⟩ = some (.int .i64 mode) ∧ (((w1.drew.alloc (.cells zeroP 83)).alloc (.cells (zeroS n) 115)).alloc (.cells (madeCells #[.bool false] n) 4)).cell? ⟨w.heap.size, 1, none⟩ = some (.int .i64 (n : Int)) from ⟨((((((Below.refl w1.heap.size w1).drew).alloc (by simp) (.cells zeroP 83)).alloc (by simp) (.cells (zeroS n) 115)).alloc (by simp; omega) (.cells (madeCells #[.bool false] n) 4)).cell (p := ⟨w.heap.size, 0, none⟩) hXl).trans y0, ((((((Below.refl w1.heap.size w1).drew).alloc (by simp) (.cells zeroP 83)).alloc (by simp) (.cells (zeroS n) 115)).alloc (by simp; omega) (.cells (madeCells #[.bool false] n) 4)).cell (p := ⟨w.heap.size, 1, none⟩) hXl).trans y1⟩)
    refine hK.out _ _ hS2 ?_
    clear hK K hS
    have hS := hS2
    clear hS2
    (try simp only [gTA, gCZ, gCS, Act.put, sTA, sCZ, sCS])
    refine wpAnyZ_take (i := 9) (v := .agg (poolV mode (.slice (some ⟨w1.heap.size + 1, 0, none⟩) n n) (.slice (some ⟨w1.heap.size + 1 + 1, 0, none⟩) n n)).toArray) rfl (by kernel_rfl) (by kernel_rfl) (by kernel_rfl) (by kernel_rfl) (fun _ _ _ h => h) (Or.inl ⟨by rfl, ?yupsb9⟩) hS ?rupsb9
    case yupsb9 => exact fun w _ => exec_pool rfl rfl rfl rfl w
    (try simp only [gTA, gCZ, gCS, Act.put, sTA, sCZ, sCS])
    refine wpAnyZ_last rfl rfl (by kernel_rfl) (by kernel_rfl) (fun K hK => ?_)
    (try simp only [gTA, gCZ, gCS])
    obtain ⟨g1, g2, g3, gB⟩ := three w1.drew zeroP (zeroS n) (madeCells #[.bool false] n) 83 115 4
    have hgP : ((((w1.drew.alloc (.cells zeroP 83)).alloc (.cells (zeroS n) 115)).alloc (.cells (madeCells #[.bool false] n) 4))).heap[w1.heap.size]? = some (.cells zeroP 83) := g1
    refine wp_store_row 83 _ _ rfl (w1.heap.size) (poolV mode (.slice (some ⟨w1.heap.size + 1, 0, none⟩) n n) (.slice (some ⟨w1.heap.size + 1 + 1, 0, none⟩) n n)).toArray rfl rfl 83 zeroP hgP pool_size rfl (poolV_one mode _ _ n) ?_
    refine hK.out _ _ ?_
    clear hK K
    (try simp only [gTA, gCZ, gCS, Act.put, sTA, sCZ, sCS])
    have hk := HK.out (w1.heap.size + 1) (w1.heap.size + 1 + 1) (w1.heap.size) _ ⟨_, ((Below.refl w1.heap.size w1).drew).trans gB, g2, g3, hgP, by omega, by omega, by omega, by omega, by omega, by omega, rfl⟩
    (try simp only [gTA, gCZ, gCS, Act.put, sTA, sCZ, sCS] at hk)
    exact hk
   ·refine ⟨_, rfl, rfl, fun K hK => ?_⟩
    (try simp only [gTA, gCZ, gCS])
    go_simp
    have hS2 := (show ((w1.drew.alloc (.cells zeroP 83)).alloc (.cells (madeCells #[.bool false] n) 4)).cell? ⟨w.heap.size, 0, none⟩ = some (.int .i64 mode) ∧ ((w1.drew.alloc (.cells zeroP 83)).alloc (.cells (madeCells #[.bool false] n) 4)).cell? ⟨w.heap.size, 1, none⟩ = some (.int .i64 (n : Int)) from ⟨(((((Below.refl w1.heap.size w1).drew).alloc (by simp) (.cells zeroP 83)).alloc (by simp) (.cells (madeCells #[.bool false] n) 4)).cell (p := ⟨w.heap.size, 0, none⟩) hXl).trans y0, (((((Below.refl w1.heap.size w1).drew).alloc (by simp) (.cells zeroP 83)).alloc (by simp) (.cells (madeCells #[.bool false] n) 4)).cell (p := ⟨w.heap.size, 1, none⟩) hXl).trans y1⟩)
    refine hK.out _ _ hS2 ?_
    clear hK K hS
    have hS := hS2
    clear hS2
    (try simp only [gTA, gCZ, gCS, Act.put, sTA, sCZ, sCS])
    refine wpAnyZ_one (i := 4) rfl rfl (by kernel_rfl) (fun K hK => ?_)
    (try simp only [gTA, gCZ, gCS])
    go_simp
    have hS2 := (show (((w1.drew.alloc (.cells zeroP 83)).alloc (.cells (madeCells #[.bool false] n) 4)).alloc (.cells (zeroS n) 115)).cell? ⟨w.heap.size, 0, none⟩ = some (.int .i64 mode) ∧ (((w1.drew.alloc (.cells zeroP 83)).alloc (.cells (madeCells #[.bool false] n) 4)).alloc (.cells (zeroS n) 115)).cell? ⟨w.heap.size, 1, none⟩ = some (.int .i64 (n : Int)) from ⟨((((((Below.refl w1.heap.size w1).drew).alloc (by simp) (.cells zeroP 83)).alloc (by simp) (.cells (madeCells #[.bool false] n) 4)).alloc (by simp; omega) (.cells (zeroS n) 115)).cell (p := ⟨w.heap.size, 0, none⟩) hXl).trans y0, ((((((Below.refl w1.heap.size w1).drew).alloc (by simp) (.cells zeroP 83)).alloc (by simp) (.cells (madeCells #[.bool false] n) 4)).alloc (by simp; omega) (.cells (zeroS n) 115)).cell (p := ⟨w.heap.size, 1, none⟩) hXl).trans y1⟩)
    refine hK.out _ _ hS2 ?_
    clear hK K hS
    have hS := hS2
    clear hS2
    (try simp only [gTA, gCZ, gCS, Act.put, sTA, sCZ, sCS])
    refine wpAnyZ_take2 (i := 5) [9] (v := ?vtpbs5) rfl (by kernel_rfl) (by kernel_rfl) (by kernel_rfl) (by kernel_rfl) (fun _ _ _ h => h) (Or.inl ⟨by rfl, ?ytpbs5⟩) hS ?rtpbs5
    case ytpbs5 => (intro w hSw; (try dsimp only at hSw); (try simp only [gTA, gCZ, gCS]); go_simp; try with_reducible rfl)
    (try simp only [gTA, gCZ, gCS, Act.put, sTA, sCZ, sCS])
    refine wpAnyZ_take (i := 9) (v := .agg (poolV mode (.slice (some ⟨w1.heap.size + 1 + 1, 0, none⟩) n n) (.slice (some ⟨w1.heap.size + 1, 0, none⟩) n n)).toArray) rfl (by kernel_rfl) (by kernel_rfl) (by kernel_rfl) (by kernel_rfl) (fun _ _ _ h => h) (Or.inl ⟨by rfl, ?yupbs9⟩) hS ?rupbs9
    case yupbs9 => exact fun w _ => exec_pool rfl rfl rfl rfl w
    (try simp only [gTA, gCZ, gCS, Act.put, sTA, sCZ, sCS])
    refine wpAnyZ_last rfl rfl (by kernel_rfl) (by kernel_rfl) (fun K hK => ?_)
    (try simp only [gTA, gCZ, gCS])
    obtain ⟨g1, g2, g3, gB⟩ := three w1.drew zeroP (madeCells #[.bool false] n) (zeroS n) 83 4 115
    have hgP : ((((w1.drew.alloc (.cells zeroP 83)).alloc (.cells (madeCells #[.bool false] n) 4)).alloc (.cells (zeroS n) 115))).heap[w1.heap.size]? = some (.cells zeroP 83) := g1
    refine wp_store_row 83 _ _ rfl (w1.heap.size) (poolV mode (.slice (some ⟨w1.heap.size + 1 + 1, 0, none⟩) n n) (.slice (some ⟨w1.heap.size + 1, 0, none⟩) n n)).toArray rfl rfl 83 zeroP hgP pool_size rfl (poolV_one mode _ _ n) ?_
    refine hK.out _ _ ?_
    clear hK K
    (try simp only [gTA, gCZ, gCS, Act.put, sTA, sCZ, sCS])
    have hk := HK.out (w1.heap.size + 1 + 1) (w1.heap.size + 1) (w1.heap.size) _ ⟨_, ((Below.refl w1.heap.size w1).drew).trans gB, g3, g2, hgP, by omega, by omega, by omega, by omega, by omega, by omega, rfl⟩
    (try simp only [gTA, gCZ, gCS, Act.put, sTA, sCZ, sCS] at hk)
    exact hk
set_option maxHeartbeats 1000000 in
theorem run_bad (mode srv : Int) (v : Value) (l : List Act) (w : World) (hl : ALst w w.heap.size v l) (hE : runE mode srv l ≠ 0) :
  Calls Tryz.prog 7 #[.agg #[.int .i64 mode, .int .i64 srv], v] w fun e w' => e = .returned (.tuple #[.agg #[.slice none 0 0, .slice none 0 0, .slice none 0 0], .int .i64 (runE mode srv l)]) ∧ Below w.heap.size w w' := by
 have n0 := ((Below.refl w.heap.size w).alloc (nL _) (.cells #[.int .i64 mode, .int .i64 srv] 23)).alloc (by simp) (.cells #[.slice none 0 0, .slice none 0 0, .slice none 0 0] 29)
 have X1 := (RowTo.whole w #[.int .i64 mode, .int .i64 srv] 23).alloc (.cells #[.slice none 0 0, .slice none 0 0, .slice none 0 0] 29)
 have X2 := RowTo.whole (w.alloc (.cells #[.int .i64 mode, .int .i64 srv] 23)) #[.slice none 0 0, .slice none 0 0, .slice none 0 0] 29
 simp only [World.size_alloc] at X2
 obtain ⟨x0, x1⟩ := cells2 X1
 have HCR := jD (checkRun_any mode srv v l _ (hl.step n0))
 obtain ⟨A, cA, rfl, hcA⟩ := hl.form
 have HX := jD X2
 have HN0 := jD n0
 obtain ⟨er, HER⟩ : ∃ e, Hid (runE mode srv l = e) := ⟨_, jD rfl⟩
 rw [HER.out] at HCR hE ⊢
 have hne : (er != (0 : Int)) = true := bne_iff_ne.2 hE
 clear hl hE n0 X1 X2
 go_enter Tryz.func7, Tryz.ntmps7
 go_wp2_with fail
 refine HCR.out.mono ?_
 rintro e w1 ⟨rfl, hb1⟩
 have hX2 := HX.out.below hb1 HX.out.lt
 have hbw := bel_add' HN0.out hb1 HN0.out.size
 obtain ⟨y0, y1, y2⟩ := cells3 hX2
 have z0 := hX2.frozen 0
 have z1 := hX2.frozen 1
 have z2 := hX2.frozen 2
 have hRl := hX2.lt
 have hBf := ((hbw.setCell (p := ⟨w.heap.size + 1, 0, none⟩) (by show w.heap.size ≤ w.heap.size + 1; omega) (.slice none 0 0)).setCell (p := ⟨w.heap.size + 1, 1, none⟩) (by show w.heap.size ≤ w.heap.size + 1; omega) (.slice none 0 0)).setCell (p := ⟨w.heap.size + 1, 2, none⟩) (by show w.heap.size ≤ w.heap.size + 1; omega) (.slice none 0 0)
 have hRf := ((hX2.put (j := 0) (by simp) (.slice none 0 0)).put (j := 1) (by simp) (.slice none 0 0)).put (j := 2) (by simp) (.slice none 0 0)
 have HF := jD (And.intro hBf hRf)
 clear hBf hRf hX2 hbw hb1 HCR HX HN0 x0 x1
 go_wp2
 obtain ⟨hBB, hRow⟩ := HF.out
 obtain ⟨t0, t1, t2⟩ := cells3 hRow
 generalize ((w1.setCell ⟨w.heap.size + 1, 0, none⟩ (.slice none 0 0)).setCell ⟨w.heap.size + 1, 1, none⟩ (.slice none 0 0)).setCell ⟨w.heap.size + 1, 2, none⟩ (.slice none 0 0) = WF at *
 refine bodyPost_ret (v := .tuple #[.agg #[.slice none 0 0, .slice none 0 0, .slice none 0 0], .int .i64 er]) (by simp [results, Tryz.results7, go_sem, t0, t1, t2]) rfl ⟨rfl, hBB⟩
end Go.Proofs.YtpbaobmegomfpabGreatDoor
