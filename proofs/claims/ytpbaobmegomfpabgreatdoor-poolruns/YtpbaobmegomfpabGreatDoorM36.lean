/-
  Texts of the proof, one behind the other: PDlv, OutM, POut.
-/
import Derived.Test.YtpbaobmegomfpabGreatDoorM35
import Derived.Test.YtpbaobmegomfpabGreatDoorM24
import Derived.Test.YtpbaobmegomfpabGreatDoorM21
import Derived.Test.YtpbaobmegomfpabGreatDoorM33
import Derived.Lib.SlBytesRow
import Derived.Lib.BufferRead
import Derived.Test.YtpbaobmegomfpabGreatDoorM1
set_option linter.unusedVariables false
set_option linter.unusedSimpArgs false
set_option maxRecDepth 100000
open List renaming getElem_toArray → gTA, getElem_cons_zero → gCZ, getElem_cons_succ → gCS, setIfInBounds_toArray → sTA, set_cons_zero → sCZ, set_cons_succ → sCS
open Go.Lib renaming hid → jD
open Nat renaming le_refl → nL
namespace Go.Proofs.YtpbaobmegomfpabGreatDoor
open Go.RowKit
theorem stmt_row : (Tryz.prog.info? 41).map (fun i => (i.zero, i.size, i.bytes)) = some (some (.agg #[.int .i64 0, .string ⟨#[]⟩, .string ⟨#[]⟩]), 3, 40) := by kernel_rfl
theorem exec_stmts {ev : Operand → Value} {o : Oper} {x : Operand} {k : Int} {key val : ByteArray} (ho : o.op = .buildSlice 63 1 #[(0, x)]) (hx : ev x = .agg #[.int .i64 k, .string key, .string val]) (w : World) :
  (execOp ev o).run Tryz.prog w = .ok (.value (.slice (some ⟨w.heap.size, 0, none⟩) 1 1)) (w.alloc (.cells #[.int .i64 k, .string key, .string val] 41)) := by
 unfold execOp
 simp only [ho, Sem.run_bind, Sem.run_pure, List.map_toArray, List.map_cons, List.map_nil, hx]
 go_simp
def pullV (s : ByteArray) : Value := match pull s with
 | none => .tuple #[.int .u8 0, .string ⟨#[]⟩, .int .i64 0]
 | some (k, t, j) => .tuple #[.int .u8 k.toNat, .string t, .int .i64 (j : Int)]
theorem unpack_any (s : ByteArray) (w : World) (hs : s.size ≤ maxLen) : Calls Tryz.prog 37 #[.string s] w fun e w' => e = .returned (pullV s) ∧ Below w.heap.size w w' := by
 unfold pullV pull
 by_cases h2 : 2 ≤ s.size
 ·rw [dif_pos h2]
  by_cases h : 2 + s[1].toNat ≤ s.size
  ·rw [if_pos h]
   refine (unpack_ok s w hs h2 h).mono ?_
   rintro e w' ⟨rfl, hb⟩
   exact ⟨rfl, hb⟩
  ·rw [if_neg h]
   refine (unpack_cut s w hs h2 (by omega)).mono ?_
   rintro e w' ⟨rfl, rfl⟩
   exact ⟨rfl, Below.refl _ _⟩
 ·rw [dif_neg h2]
  refine (unpack_two s w (by omega)).mono ?_
  rintro e w' ⟨rfl, rfl⟩
  exact ⟨rfl, Below.refl _ _⟩
section
variable {base P : Nat} {f : Nat → Value} {G : Nat → Option Nat} {mode : Int} {m : Mach PE} {N : Nat}
theorem PMem.waited {w : World} (h : PMem 0 w base P f G mode m) (hcl : m.cl.length = 6) {c : Nat} (hc : c < 6) (hl : (m.get c).wait.length ≤ 300000) {ad : Nat} (r : Req) (hx : ∀ j u, (reqV r)[j]? = some u → w.cell? ⟨ad, j, none⟩ = some u) :
  ∃ b off cap n w', (Builtin.append_ #[63, 63] 63 #[f (4 + c * 6 + 1), .slice (some ⟨ad, 0, none⟩) 1 1]).run Tryz.prog w = .ok (.slice (some ⟨b, off, none⟩) n cap) w' ∧ w'.cell? ⟨P, 4 + c * 6 + 1, none⟩ = some (f (4 + c * 6 + 1)) ∧ w'.frozen? ⟨P, 4 + c * 6 + 1, none⟩ = false ∧ P < w'.heap.size ∧
   PMem 0 (w'.setCell ⟨P, 4 + c * 6 + 1, none⟩ (.slice (some ⟨b, off, none⟩) n cap)) base P (upd f (4 + c * 6 + 1) (.slice (some ⟨b, off, none⟩) n cap)) (upd G (2 + c) (some b)) mode (m.set c { m.get c with wait := (m.get c).wait ++ [r] }) ∧ Below base w (w'.setCell ⟨P, 4 + c * 6 + 1, none⟩ (.slice (some ⟨b, off, none⟩) n cap)) := by
 have hc' : c < m.cl.length := by omega
 have e1 : slC (2 + c) = 4 + c * 6 + 1 := by unfold slC; rw [if_neg (by omega), if_pos (by omega)]; omega
 have e2 : slT (2 + c) = 41 := by unfold slT; rw [if_neg (by omega), if_pos (by omega)]
 have e3 : slZ (2 + c) = 3 := by unfold slZ; rw [if_neg (by omega), if_pos (by omega)]
 obtain ⟨i0, hi, hz0, hz1, hz2⟩ := info_parts stmt_row
 have hbP := (h.lo 0 P h.p0).1
 have hbase : base ≤ w.heap.size := Nat.le_trans hbP (Nat.le_of_lt h.row.lt)
 obtain ⟨b, off, cap, w', hrun, hs, hg, hb⟩ := (h.waitSl hc).append (P := Tryz.prog) 63 63 i0 _ 40 Tryz.underlying63 hi hz0 hz1 hz2 rfl (by omega) ⟨ad, 0, none⟩ 1 (reqV r) rfl (fun j u hu => by rw [Addr.add_lit, Nat.zero_add]; exact hx j u hu) (fun u hu => by
  simp only [reqV, List.mem_cons, List.not_mem_nil, or_false] at hu
  rcases hu with rfl | rfl | rfl <;> rfl) (by unfold maxLen; omega) (by omega)
 have hne : some P ≠ G (2 + c) := fun e => h.noP (k := 2 + c) (by omega) e.symm
 have hP' := hg.block P h.row.lt hne
 have hgc : ((m.set c { m.get c with wait := (m.get c).wait ++ [r] }).get c).wait = (m.get c).wait ++ [r] := by rw [get_set hc', if_pos rfl]
 have hgr := h.grow' (k := 2 + c) (m' := m.set c { m.get c with wait := (m.get c).wait ++ [r] }) (n' := (m.get c).wait.length + 1) (v := .slice (some ⟨b, off, none⟩) ((m.get c).wait.length + 1) cap) (b := b) (by omega) (by omega) hbase hg (by rw [e2, e3]; exact hs) hb (by rw [items_wait _ hc, hgc]; simp) (by rw [items_wait _ hc, hgc, List.map_append, List.flatten_append]; simp) (fun k h1 _ hk => items_wset hc' h1 hk) rfl (fun d => ?_) (fun d => ?_)
 ·rw [e1] at hgr
  exact ⟨b, off, cap, _, w', hrun, (World.cell?_of_block (a := ⟨P, 4 + c * 6 + 1, none⟩) hP').trans (h.row.cell (j := 4 + c * 6 + 1) (by omega)), (World.frozen?_of_block (a := ⟨P, 4 + c * 6 + 1, none⟩) hP').trans (h.row.frozen _), Nat.lt_of_lt_of_le h.row.lt hg.size, hgr, ((Below.refl base w).grown hg hbase (fun x hx => (h.lo _ _ hx).1)).setCell hbP _⟩
 ·rw [get_set hc']; split
  ·rename_i e; rw [e]
  ·rfl
 ·rw [get_set hc']; split
  ·rename_i e; rw [e]
  ·rfl
theorem set_both {c : Nat} (hc : c < m.cl.length) (b : ByteArray) (r : Req) : (m.set c { m.get c with bytes := b }).set c { (m.set c { m.get c with bytes := b }).get c with wait := ((m.set c { m.get c with bytes := b }).get c).wait ++ [r] } = m.set c { m.get c with bytes := b, wait := (m.get c).wait ++ [r] } := by
 rw [get_set hc, if_pos rfl]
 unfold Mach.set
 simp
theorem feed_none {c n : Nat} (hp : pull (m.get c).bytes = none) : m.feed poolO mode (n + 1) c = m := by rw [Mach.feed, hp]
theorem feed_bye {c n : Nat} {t : ByteArray} {j : Nat} (hp : pull (m.get c).bytes = some (88, t, j)) : m.feed poolO mode (n + 1) c = (m.all poolO mode).leave poolO c := by
 rw [Mach.feed, hp]
 simp only
 rw [if_pos trivial]
theorem feed_req {c n : Nat} {k : UInt8} {t : ByteArray} {j : Nat} (hp : pull (m.get c).bytes = some (k, t, j)) (hk : k ≠ 88) : m.feed poolO mode (n + 1) c = (m.set c { m.get c with bytes := (m.get c).bytes.extract j (m.get c).bytes.size, wait := (m.get c).wait ++ [reqOf k t] }).feed poolO mode n c := by
 rw [Mach.feed, hp]
 simp only
 rw [if_neg hk]
def DlvRel (w : World) (base P c N : Nat) (mode : Int) (q : Mach PE) (gg : Nat) (wr : World) : Prop :=
 ∃ m1 f1 G1 n, (m1.get c).bytes.size ≤ gg ∧ (m1.get c).bytes.size < n ∧ m1.feed poolO mode n c = q ∧ PMem 0 wr base P f1 G1 mode m1 ∧ Inv mode m1 N ∧ m1.busy.length ≤ 8 ∧ Below base w wr
set_option maxHeartbeats 2000000 in
theorem deliver_any (w : World) (h : PMem 0 w base P f G mode m) (hT : Tabs w base) (hI : Inv mode m N) {c : Nat} (hc : c < 6) (data : ByteArray) (hN : N + data.size ≤ 300000) (hbl : m.busy.length ≤ 8) :
  Calls Tryz.prog 49 #[ptr P 0, .int .i64 (c : Int), .string data] w (PPost w base P mode (m.deliver poolO mode c data)) := by
 have hP := h.row.lt
 have hbP := (h.lo 0 P h.p0).1
 have hcI : (c : Int) < 6 := by omega
 have hwN := hI.waits (N := N) (by omega) c
 have b0 := h.row.cell (j := 4 + c * 6) (by omega)
 rw [h.bytes c hc] at b0
 have z0 := h.row.frozen (4 + c * 6)
 have hM1 := h.setBytes hc hI.ok.n6 ((m.get c).bytes ++ data)
 have hB1 := (Below.refl base w).setCell (p := ⟨P, 4 + c * 6, none⟩) hbP (.string ((m.get c).bytes ++ data))
 have hI1 := hI.bytes hc data
 have hsum : ¬ (9223372036854775807 < (m.get c).bytes.size + data.size) := by omega
 have hgb : ((m.set c { m.get c with bytes := (m.get c).bytes ++ data }).get c).bytes = (m.get c).bytes ++ data := by rw [get_set (by rw [hI.ok.n6]; exact hc), if_pos rfl]
 have H1 : Hid (DlvRel w base P c (N + data.size) mode (m.deliver poolO mode c data) ((m.get c).bytes.size + data.size) (w.setCell ⟨P, 4 + c * 6, none⟩ (.string ((m.get c).bytes ++ data)))) := jD ⟨_, _, _, (m.get c).bytes.size + data.size + 1, by rw [hgb, ByteArray.size_append]; exact nL _, by rw [hgb, ByteArray.size_append]; exact Nat.lt_succ_self _, rfl, hM1, hI1, hbl, hB1⟩
 have HT := jD hT
 obtain ⟨q, HQ⟩ : ∃ q, Hid (m.deliver poolO mode c data = q) := ⟨_, jD rfl⟩
 rw [HQ.out] at H1 ⊢
 obtain ⟨gs, HGS⟩ : ∃ q, Hid ((m.get c).bytes.size + data.size = q) := ⟨_, jD rfl⟩
 rw [HGS.out] at H1
 generalize (m.get c).bytes = bs at *
 clear h hT hI hM1 hB1 hI1 hgb HQ hwN hbl HGS
 unfold ptr
 go_enter Tryz.func49, Tryz.ntmps49
 go_wp2_with fail
 go_loopg [24] gs (fun gg _ wr => Hid (DlvRel w base P c (N + data.size) mode q gg wr))
 case atStart => exact H1.out
 case round =>
  obtain ⟨m1, f1, G1, n, hgg, hn, hfd, hM, hI, hb8, hB⟩ := hrel.out
  clear hrel H1 b0 z0 hsum hP
  have hP := hM.row.lt
  have hwN := hI.waits hN c
  have b0 := hM.row.cell (j := 4 + c * 6) (by omega)
  rw [hM.bytes c hc] at b0
  have z0 := hM.row.frozen (4 + c * 6)
  obtain ⟨n, rfl⟩ : ∃ k, n = k + 1 := ⟨n - 1, by omega⟩
  have HU := jD (fun wc => unpack_any (m1.get c).bytes wc (by unfold maxLen; omega))
  have HM := jD hM
  have HI := jD hI
  have HB := jD hB
  have HT1 := jD (HT.out.below hB)
  have hbase : base ≤ wr.heap.size := Nat.le_trans hbP (Nat.le_of_lt hP)
  cases hp : pull (m1.get c).bytes with
  | none =>
   have HE := jD ((feed_none (n := n) (mode := mode) hp).symm.trans hfd)
   have hV : pullV (m1.get c).bytes = .tuple #[.int .u8 0, .string ⟨#[]⟩, .int .i64 0] := by unfold pullV; rw [hp]
   rw [hV] at HU
   generalize (m1.get c).bytes = bs1 at *
   clear hM hI hB hfd hp hV hgg hn
   go_wp2_with fail
   refine (HU.out _).mono ?_
   rintro e w1 ⟨rfl, hb1⟩
   have HF := jD (And.intro (HM.out.below hb1) (HB.out.trans (hb1.mono hbase)))
   clear hb1 HU b0 z0
   go_wp2
   go_end0
   rw [← HE.out]
   exact ⟨_, _, rfl, HF.out.1, HF.out.2⟩
  | some pr =>
   obtain ⟨k, t, j⟩ := pr
   have hj := pull_j hp
   have hV : pullV (m1.get c).bytes = .tuple #[.int .u8 k.toNat, .string t, .int .i64 (j : Int)] := by unfold pullV; rw [hp]
   rw [hV] at HU
   have hj0 : ((j : Int) == 0) = false := beq_eq_false_iff_ne.2 (by omega)
   by_cases hk : k = 88
   ·subst hk
    have HE := jD ((feed_bye (n := n) (mode := mode) hp).symm.trans hfd)
    generalize (m1.get c).bytes = bs1 at *
    clear hM hI hB hfd hp hV hgg hn hwN hj
    have hk8 : (((88 : UInt8).toNat : Int) == 88) = true := by decide
    go_wp2_with fail
    refine (HU.out _).mono ?_
    rintro e w1 ⟨rfl, hb1⟩
    have HF := jD (And.intro (HM.out.below hb1) (And.intro (HB.out.trans (hb1.mono hbase)) (HT1.out.below (hb1.mono hbase))))
    clear hb1 HU b0 z0
    have HA := jD (all_any w1 HF.out.1 HF.out.2.2 HI.out hN hb8)
    unfold ptr at HA
    go_wp2_with fail
    refine HA.out.mono ?_
    rintro e w2 ⟨f2, G2, rfl, hM2, hB2⟩
    have HL := jD (leave_any w2 hM2 (HF.out.2.2.below hB2) HI.out.all hc)
    have HB2 := jD (HF.out.2.1.trans hB2)
    unfold ptr at HL
    clear hM2 hB2 HA
    go_wp2_with fail
    refine HL.out.mono ?_
    rintro e w3 ⟨f3, G3, rfl, hM3, hB3⟩
    have HF3 := jD (And.intro hM3 (HB2.out.trans hB3))
    clear hM3 hB3 HL
    go_wp2
    go_end0
    rw [← HE.out]
    exact ⟨_, _, rfl, HF3.out.1, HF3.out.2⟩
   ·have hk8 : ((k.toNat : Int) == 88) = false := beq_eq_false_iff_ne.2 (fun e => hk (UInt8.toNat_inj.1 (by show k.toNat = 88; omega)))
    have hc1 : c < m1.cl.length := by rw [hI.ok.n6]; exact hc
    have HE := jD ((feed_req (n := n) (mode := mode) hp hk).symm.trans hfd)
    have HI2 := jD (hI.pull hc hp)
    have HS := jD (set_both hc1 ((m1.get c).bytes.extract j (m1.get c).bytes.size) (reqOf k t))
    have HSB := jD (fun w2 (h2 : PMem 0 w2 base P f1 G1 mode m1) => h2.setBytes hc hI.ok.n6 ((m1.get c).bytes.extract j (m1.get c).bytes.size))
    have hsz : ((m1.get c).bytes.extract j (m1.get c).bytes.size).size < n ∧ ((m1.get c).bytes.extract j (m1.get c).bytes.size).size < gk := by rw [ext_size]; omega
    have hgs1 : ∀ x : Cl, (m1.set c x).get c = x := fun x => by rw [get_set hc1, if_pos rfl]
    have HGS := jD hgs1
    have HRQ := jD (fun wc (hw : Words wc) => request_any k t wc hw)
    have HWL := jD hwN.1
    have HN6 := jD hI.ok.n6
    obtain ⟨x1, HX1⟩ : ∃ x, Hid (m1.get c = x) := ⟨_, jD rfl⟩
    rw [HX1.out] at HE HI2 HS HSB hsz HU b0 hj hwN
    obtain ⟨bs1, HBS⟩ : ∃ x, Hid (x1.bytes = x) := ⟨_, jD rfl⟩
    rw [HBS.out] at HE HI2 HS HSB hsz HU b0 hj hwN
    obtain ⟨rest, HRE⟩ : ∃ x, Hid (bs1.extract j bs1.size = x) := ⟨_, jD rfl⟩
    rw [HRE.out] at HE HI2 HS HSB hsz
    have hrl : rest.size ≤ 300000 := by have := HRE.out; rw [← this, ext_size]; omega
    have hre := HRE.out
    have hjI : (j : Int) ≤ (bs1.size : Int) := by omega
    have hjt : (j : Int).toNat = j := by omega
    clear hM hI hB hfd hp hV hgg hn hgs1 hc1 hk
    go_wp2_with fail
    refine (HU.out _).mono ?_
    rintro e w1 ⟨rfl, hb1⟩
    have hM1 := HM.out.below hb1
    have HB1 := jD (HB.out.trans (hb1.mono hbase))
    have HT2 := jD (HT1.out.below (hb1.mono hbase))
    have b1 := (hb1.cell (p := ⟨P, 4 + c * 6, none⟩) hP).trans b0
    have z1 := hM1.row.frozen (4 + c * 6)
    have hP1 := hM1.row.lt
    have HM1 := jD (HSB.out w1 hM1)
    clear hb1 HU b0 z0 hM1 HM HB HT1
    go_wp2_with fail
    (try rw [hre])
    have hM2 := HM1.out
    have hB2 := HB1.out.setCell (p := ⟨P, 4 + c * 6, none⟩) hbP (.string rest)
    have hT2 := HT2.out.below ((Below.refl base w1).setCell (p := ⟨P, 4 + c * 6, none⟩) hbP (.string rest))
    obtain ⟨W2, HW2⟩ : ∃ u, Hid (w1.setCell ⟨P, 4 + c * 6, none⟩ (.string rest) = u) := ⟨_, jD rfl⟩
    rw [HW2.out] at hM2 hB2 hT2 ⊢
    obtain ⟨f2, HF2⟩ : ∃ u, Hid (upd f1 (4 + c * 6) (.string rest) = u) := ⟨_, jD rfl⟩
    rw [HF2.out] at hM2
    clear HW2 b1 z1 HM1 HB1 HT2 HF2 hP1
    have HM2 := jD hM2
    have HB2 := jD hB2
    have HT2 := jD hT2
    have hP2 := hM2.row.lt
    have s0 := hM2.row.cell (j := 4 + c * 6 + 1) (by omega)
    obtain ⟨fv, HFV⟩ : ∃ u, Hid (f2 (4 + c * 6 + 1) = u) := ⟨_, jD rfl⟩
    rw [HFV.out] at s0
    clear hM2 hB2 hT2
    refine wp_region_z 12 (fun wx => wx.cell? ⟨P, 4 + c * 6 + 1, none⟩ = some fv) (by kernel_rfl) (s0) (fun hS => ?_)
    refine tkE [(0, []), (1, []), (2, []), (3, []), (4, []), (5, []), (6, [])] ?_
    iterate 7
     refine tkS (v := ?_) hS ?_ ?_
     rotate_left
     ·(intro w hSw; (try dsimp only at hSw); (try simp only [gTA, gCZ, gCS]); go_simp; try with_reducible rfl)
     (try simp only [gTA, gCZ, gCS, Act.put, sTA, sCZ, sCS])
    refine tkF ?_
    refine wpAnyZ_one (i := 7) rfl rfl (by kernel_rfl) (fun K hK => ?_)
    (try simp only [gTA, gCZ, gCS])
    go_simp
    refine (HRQ.out _ (HT2.out.wo.below (Below.refl _ _).drew)).mono ?_
    rintro e w3 ⟨rfl, hb3⟩
    have kb := bel_add' (Below.refl W2.heap.size W2).drew hb3 (nL _)
    clear hb3
    have s3 := (kb.cell (p := ⟨P, 4 + c * 6 + 1, none⟩) hP2).trans s0
    obtain ⟨r, HR⟩ : ∃ u, Hid (reqOf k t = u) := ⟨_, jD rfl⟩
    rw [HR.out] at HE HI2 HS ⊢
    have nD := kb.alloc kb.size (.cells #[.int .i64 r.k, .string r.key, .string r.val] 41)
    have XD := RowTo.whole w3 #[.int .i64 r.k, .string r.key, .string r.val] 41
    have hMD := HM2.out.below nD
    obtain ⟨b, off, cap, nn, w8, hrun, p0, fz, hP8, hM8, hB8⟩ := hMD.waited (by show (m1.cl.set c _).length = 6; rw [List.length_set]; exact HN6.out) hc (by rw [HGS.out]; show x1.wait.length ≤ _; have := HWL.out; rw [HX1.out] at this; exact this) (ad := w3.heap.size) r (fun j u hu => by
     obtain ⟨x0, x1, x2⟩ := cells3 XD
     match j, hu with
     | 0, hu => injection hu with hu; rw [← hu]; exact x0
     | 1, hu => injection hu with hu; rw [← hu]; exact x1
     | 2, hu => injection hu with hu; rw [← hu]; exact x2
     | n + 3, hu => simp [reqV] at hu)
    rw [HS.out] at hM8
    rw [HFV.out] at hrun p0
    have sD := (nD.cell (p := ⟨P, 4 + c * 6 + 1, none⟩) hP2).trans s0
    have HFF := jD (And.intro hM8 (HB2.out.trans ((nD.mono (Nat.le_trans hbP (Nat.le_of_lt hP2))).trans hB8)))
    clear hM8 hB8 hMD nD XD kb
    go_simp
    have hS2 := s3
    refine hK.out _ _ hS2 ?_
    clear hK K hS
    have hS := hS2
    clear hS2
    (try simp only [gTA, gCZ, gCS, Act.put, sTA, sCZ, sCS])
    refine wpAnyZ_one (i := 8) rfl rfl (by kernel_rfl) (fun K hK => ?_)
    (try simp only [gTA, gCZ, gCS])
    refine wp_val (exec_stmts rfl rfl _) ?_
    have hS2 := sD
    refine hK.out _ _ hS2 ?_
    clear hK K hS
    have hS := hS2
    clear hS2
    (try simp only [gTA, gCZ, gCS, Act.put, sTA, sCZ, sCS])
    refine wpAnyZ_one (i := 9) rfl rfl (by kernel_rfl) (fun K hK => ?_)
    (try simp only [gTA, gCZ, gCS])
    refine Lib.wp_append_run _ _ _ _ _ rfl _ _ rfl rfl _ _ hrun ?_
    have hS2 := p0
    refine hK.out _ _ hS2 ?_
    clear hK K hS
    have hS := hS2
    clear hS2
    (try simp only [gTA, gCZ, gCS, Act.put, sTA, sCZ, sCS])
    refine tkE [(10, [11]), (11, [])] ?_
    iterate 2
     refine tkS (v := ?_) hS ?_ ?_
     rotate_left
     ·(intro w hSw; (try dsimp only at hSw); (try simp only [gTA, gCZ, gCS]); go_simp; try with_reducible rfl)
     (try simp only [gTA, gCZ, gCS, Act.put, sTA, sCZ, sCS])
    refine tkF ?_
    refine wpAnyZ_last rfl rfl (by kernel_rfl) (by kernel_rfl) (fun K hK => ?_)
    (try simp only [gTA, gCZ, gCS])
    go_simp
    refine hK.out _ _ ?_
    clear hK K
    (try simp only [gTA, gCZ, gCS, Act.put, sTA, sCZ, sCS])
    go_wp2
    go_roundg rest.size
    case measure => exact hsz.2
    case rel => exact ⟨_, _, _, n, by rw [HGS.out]; exact nL _, by rw [HGS.out]; exact hsz.1, HE.out, HFF.out.1, HI2.out, hb8, HFF.out.2⟩
end
structure TLst (w : World) (B : Nat) (v : Value) (l : List ByteArray) : Prop where
 form : ∃ A c, v = .slice A l.length c ∧ l.length ≤ c
 small : l.length ≤ 1000000
 sizes : ∀ t ∈ l, t.size ≤ 100000000
 cells : 0 < l.length → ∃ b off c, v = .slice (some ⟨b, off, none⟩) l.length c ∧ b < B ∧ ∀ i (h : i < l.length), w.cell? ⟨b, off + i, none⟩ = some (.string l[i])
structure DLst (w : World) (B : Nat) (v : Value) (l : List Deed) : Prop where
 form : ∃ A c, v = .slice A l.length c ∧ l.length ≤ c
 small : l.length ≤ 1000000
 cells : 0 < l.length → ∃ b off c, v = .slice (some ⟨b, off, none⟩) l.length c ∧ b < B ∧ ∀ i (h : i < l.length) j u, (deedV l[i])[j]? = some u → w.cell? ⟨b, off + i * 7 + j, none⟩ = some u
section
variable {w w' : World} {B B' : Nat} {v : Value}
theorem TLst.keep {l : List ByteArray} (h : TLst w B v l) (hB : B ≤ B') (hk : ∀ p : Addr, p.block < B → w'.cell? p = w.cell? p) : TLst w' B' v l := by
 refine ⟨h.form, h.small, h.sizes, fun hn => ?_⟩
 obtain ⟨b, off, c, e, hb, hc⟩ := h.cells hn
 exact ⟨b, off, c, e, by omega, fun i hi => (hk _ hb).trans (hc i hi)⟩
theorem TLst.step {l : List ByteArray} (h : TLst w w.heap.size v l) (hb : Below w.heap.size w w') : TLst w' w'.heap.size v l := h.keep hb.size fun _ hp => hb.cell hp
theorem TLst.pt {n c : Nat} {A : Option Addr} {l : List ByteArray} (h : TLst w B (.slice A n c) l) {k : Nat} (hk : k < l.length) : ∃ b off, A = some ⟨b, off, none⟩ ∧ b < B ∧ w.cell? ⟨b, off + k, none⟩ = some (.string l[k]) := by
 obtain ⟨b, off, c', e, hb, hc⟩ := h.cells (by omega)
 injection e with e1 e2 e3
 exact ⟨b, off, e1, hb, hc k hk⟩
theorem DLst.keep {l : List Deed} (h : DLst w B v l) (hB : B ≤ B') (hk : ∀ p : Addr, p.block < B → w'.cell? p = w.cell? p) : DLst w' B' v l := by
 refine ⟨h.form, h.small, fun hn => ?_⟩
 obtain ⟨b, off, c, e, hb, hc⟩ := h.cells hn
 exact ⟨b, off, c, e, by omega, fun i hi j u hu => (hk _ hb).trans (hc i hi j u hu)⟩
theorem DLst.step {l : List Deed} (h : DLst w w.heap.size v l) (hb : Below w.heap.size w w') : DLst w' w'.heap.size v l := h.keep hb.size fun _ hp => hb.cell hp
theorem DLst.pt {n c : Nat} {A : Option Addr} {l : List Deed} (h : DLst w B (.slice A n c) l) {k : Nat} (hk : k < l.length) : ∃ b off, A = some ⟨b, off, none⟩ ∧ b < B ∧ w.cell? ⟨b, off + k * 7, none⟩ = some (.int .i64 l[k].c) ∧ w.cell? ⟨b, off + k * 7 + 1, none⟩ = some (.int .i64 l[k].r.k) ∧ w.cell? ⟨b, off + k * 7 + 2, none⟩ = some (.string l[k].r.key) ∧
  w.cell? ⟨b, off + k * 7 + 3, none⟩ = some (.string l[k].r.val) ∧ w.cell? ⟨b, off + k * 7 + 4, none⟩ = some (.int .i64 l[k].a.kind) ∧ w.cell? ⟨b, off + k * 7 + 5, none⟩ = some (.string l[k].a.text) ∧ w.cell? ⟨b, off + k * 7 + 6, none⟩ = some (.int .i64 l[k].st) := by
 obtain ⟨b, off, c', e, hb, hc⟩ := h.cells (by omega)
 injection e with e1 e2 e3
 exact ⟨b, off, e1, hb, hc k hk 0 _ rfl, hc k hk 1 _ rfl, hc k hk 2 _ rfl, hc k hk 3 _ rfl, hc k hk 4 _ rfl, hc k hk 5 _ rfl, hc k hk 6 _ rfl⟩
end
structure OutV (w : World) (v1 v2 v3 : Value) (sent : List ByteArray) (deeds : List Deed) (rows : PL) : Prop where
 s : TLst w w.heap.size v1 sent
 d : DLst w w.heap.size v2 deeds
 r : Lst w w.heap.size v3 rows
theorem OutV.step {w w' : World} {v1 v2 v3 : Value} {sent : List ByteArray} {deeds : List Deed} {rows : PL} (h : OutV w v1 v2 v3 sent deeds rows) (hb : Below w.heap.size w w') : OutV w' v1 v2 v3 sent deeds rows :=
 ⟨h.s.step hb, h.d.step hb, (h.r.below hb).more hb.size⟩
theorem row_tlst {w : World} {g t n c : Nat} {l : List ByteArray} (h : RowTo w g t n (l.map Value.string)) (hc : l.length ≤ c) (hl : l.length ≤ 1000000) (hs : ∀ t ∈ l, t.size ≤ 100000000) : TLst w w.heap.size (.slice (some ⟨g, 0, none⟩) l.length c) l := by
 refine ⟨⟨_, _, rfl, hc⟩, hl, hs, fun _ => ⟨g, 0, c, rfl, h.lt, fun i hi => ?_⟩⟩
 have := h.cell (j := i) (by simpa using hi)
 rw [List.getElem_map] at this
 rw [Nat.zero_add]; exact this
theorem sl_dlst {w : World} {t : Nat} {v : Value} {g : Option Nat} {l : List Deed} (h : Sl w t 7 v g l.length (l.map deedV).flatten) (hl : l.length ≤ 1000000) (hg : ∀ b, g = some b → b < w.heap.size) : DLst w w.heap.size v l := by
 obtain ⟨A, c, rfl, hc⟩ := h.shape
 refine ⟨⟨A, c, rfl, hc⟩, hl, fun hn => ?_⟩
 obtain ⟨b, off, cap, h1, h2, h3, h4⟩ := h.at hn
 refine ⟨b, off, cap, h2, hg b h1, fun i hi j u hu => ?_⟩
 have hj : j < 7 := (List.getElem?_eq_some_iff.1 hu).1
 have hf := flat_get (d := l.map deedV) (size := 7) (fun e he => by obtain ⟨x, _, rfl⟩ := List.mem_map.1 he; rfl) (i := i) (by simpa using hi) hj
 rw [List.getElem_map, hu] at hf
 obtain ⟨hlt, hv⟩ := List.getElem?_eq_some_iff.1 hf
 rw [Nat.add_assoc, h4 _ hlt, hv]
theorem ba_zero {s : ByteArray} (h : s.size = 0) : s = ⟨#[]⟩ := ba_ext (by
 have : s.data.toList.length = 0 := by simpa using h
 rw [List.eq_nil_of_length_eq_zero this])
theorem idx0 (v0 v1 v2 v3 v4 v5 : Value) (w : World) : (Instr.index 81 (.agg #[v0, v1, v2, v3, v4, v5]) (.int .i64 0)).run Tryz.prog w = .ok v0 w := by kernel_rfl
theorem idx1 (v0 v1 v2 v3 v4 v5 : Value) (w : World) : (Instr.index 81 (.agg #[v0, v1, v2, v3, v4, v5]) (.int .i64 1)).run Tryz.prog w = .ok v1 w := by kernel_rfl
theorem idx2 (v0 v1 v2 v3 v4 v5 : Value) (w : World) : (Instr.index 81 (.agg #[v0, v1, v2, v3, v4, v5]) (.int .i64 2)).run Tryz.prog w = .ok v2 w := by kernel_rfl
theorem idx3 (v0 v1 v2 v3 v4 v5 : Value) (w : World) : (Instr.index 81 (.agg #[v0, v1, v2, v3, v4, v5]) (.int .i64 3)).run Tryz.prog w = .ok v3 w := by kernel_rfl
theorem idx4 (v0 v1 v2 v3 v4 v5 : Value) (w : World) : (Instr.index 81 (.agg #[v0, v1, v2, v3, v4, v5]) (.int .i64 4)).run Tryz.prog w = .ok v4 w := by kernel_rfl
theorem idx5 (v0 v1 v2 v3 v4 v5 : Value) (w : World) : (Instr.index 81 (.agg #[v0, v1, v2, v3, v4, v5]) (.int .i64 5)).run Tryz.prog w = .ok v5 w := by kernel_rfl
theorem str_row : (Tryz.prog.info? 9).map (fun i => (i.zero, i.size, i.bytes)) = some (some (.string ⟨#[]⟩), 1, 16) := by kernel_rfl
theorem make_str6 (w : World) : (Instr.makeSlice 25 (.int .i64 6) (.int .i64 6)).run Tryz.prog w = .ok (.slice (some ⟨w.heap.size, 0, none⟩) 6 6) (w.alloc (.cells #[.string ⟨#[]⟩, .string ⟨#[]⟩, .string ⟨#[]⟩, .string ⟨#[]⟩, .string ⟨#[]⟩, .string ⟨#[]⟩] 9)) := by
 obtain ⟨i0, hi, hz0, hz1, hz2⟩ := info_parts str_row
 have hr := run_make (P := Tryz.prog) w 25 9 i0 _ Tryz.underlying25 hi hz0 .i64 .i64 6 6 (by omega) (Int.le_refl _) (by rw [hz2]; omega) (by omega)
 rw [hz1] at hr
 have e : madeCells (Value.string ⟨#[]⟩).cells 6 = #[.string ⟨#[]⟩, .string ⟨#[]⟩, .string ⟨#[]⟩, .string ⟨#[]⟩, .string ⟨#[]⟩, .string ⟨#[]⟩] := by kernel_rfl
 rw [show Int.toNat 6 * 1 = 6 from rfl, e] at hr
 exact hr
section
variable {base P : Nat} {f : Nat → Value} {G : Nat → Option Nat} {mode : Int} {m : Mach PE} {N : Nat}
theorem PMem.sentSl {w : World} (h : PMem 0 w base P f G mode m) {c : Nat} (hc : c < 6) : Sl w 5 1 (f (41 + c)) (G (9 + c)) (m.sent.getD c ⟨#[]⟩).size ((m.sent.getD c ⟨#[]⟩).data.toList.map (fun b => Value.int .u8 (b.toNat : Int))) := by
 have e1 : slC (9 + c) = 41 + c := by unfold slC; rw [if_neg (by omega), if_neg (by omega), if_neg (by omega), if_pos (by omega)]; omega
 have e2 : slT (9 + c) = 5 := by unfold slT; rw [if_neg (by omega), if_neg (by omega), if_neg (by omega), if_pos (by omega)]
 have e3 : slZ (9 + c) = 1 := by unfold slZ; rw [if_neg (by omega), if_neg (by omega), if_pos (by omega)]
 have hsl := h.sl (9 + c) (by omega) (by omega) (by omega)
 rw [e1, e2, e3, items_sent _ hc, flat_ones, List.length_map] at hsl
 exact hsl
theorem sent_conv {w wx : World} (h : PMem 0 w base P f G mode m) {c : Nat} (hc : c < 6) (hb : Below w.heap.size w wx) : (convert 80 9 (f (41 + c))).run Tryz.prog wx = .ok (.string (m.sent.getD c ⟨#[]⟩)) wx := by
 rcases (h.sentSl hc).form with ⟨_, hv, h0⟩ | ⟨b, off, cap, tot, hg, hv, hcap, _, _, hcell⟩
 ·rw [hv, ba_zero h0]
  exact Lib.run_convert_nil_bytes (P := Tryz.prog) wx 80 9 5 0 Tryz.underlying80 Tryz.underlying5 Tryz.underlying9
 ·rw [hv]
  refine Lib.run_convert_whole (P := Tryz.prog) wx 80 5 9 Tryz.underlying80 Tryz.underlying5 Tryz.underlying9 b off _ (fun i hi => ?_) cap
  have hbl := (h.lo _ b hg).2
  rw [hb.cell (p := ⟨b, off + i, none⟩) hbl, hcell i (by simpa using hi), List.getElem_map]
  rfl
def OutRel (w : World) (R Q : Nat) (sent : List ByteArray) (k : Nat) (wr : World) : Prop := RowTo wr Q 9 6 ((sent.take k).map Value.string) ∧ RowTo wr R 29 3 [.slice none 0 0, .slice none 0 0, .slice none 0 0] ∧ Below w.heap.size w wr
set_option maxHeartbeats 2000000 in
theorem outcome_any (w : World) (h : PMem 0 w base P f G mode m) (hI : Inv mode m N) (hN : N ≤ 300000) :
  Calls Tryz.prog 26 #[ptr P 0] w fun e w' => ∃ v1 v2 v3, e = .returned (.agg #[v1, v2, v3]) ∧ OutV w' v1 v2 v3 m.sent m.deeds m.e.w.rows ∧ Below w.heap.size w w' := by
 have hP := h.row.lt
 have hs6 := hI.ok.s6
 have n0 := ((Below.refl w.heap.size w).alloc (nL _) (.cells #[.slice none 0 0, .slice none 0 0, .slice none 0 0] 29)).alloc (by simp) (.cells #[.string ⟨#[]⟩, .string ⟨#[]⟩, .string ⟨#[]⟩, .string ⟨#[]⟩, .string ⟨#[]⟩, .string ⟨#[]⟩] 9)
 have X1 := (RowTo.whole w #[.slice none 0 0, .slice none 0 0, .slice none 0 0] 29).alloc (.cells #[.string ⟨#[]⟩, .string ⟨#[]⟩, .string ⟨#[]⟩, .string ⟨#[]⟩, .string ⟨#[]⟩, .string ⟨#[]⟩] 9)
 have X2 := (RowTo.whole (w.alloc (.cells #[.slice none 0 0, .slice none 0 0, .slice none 0 0] 29)) #[.string ⟨#[]⟩, .string ⟨#[]⟩, .string ⟨#[]⟩, .string ⟨#[]⟩, .string ⟨#[]⟩, .string ⟨#[]⟩] 9).front 0
 simp only [World.size_alloc, List.take_zero] at X2
 obtain ⟨A0, l0, q0, hf0'⟩ : ∃ A n q, f 41 = .slice A n q := by
  obtain ⟨A, q, e, _⟩ := (h.sentSl (c := 0) (by omega)).shape
  exact ⟨A, _, q, e⟩
 have y0 := (n0.cell (p := ⟨P, 41, none⟩) hP).trans (h.row.cell (j := 41) (by omega))
 rw [hf0'] at y0
 obtain ⟨A1, l1, q1, hf1'⟩ : ∃ A n q, f 42 = .slice A n q := by
  obtain ⟨A, q, e, _⟩ := (h.sentSl (c := 1) (by omega)).shape
  exact ⟨A, _, q, e⟩
 have y1 := (n0.cell (p := ⟨P, 42, none⟩) hP).trans (h.row.cell (j := 42) (by omega))
 rw [hf1'] at y1
 obtain ⟨A2, l2, q2, hf2'⟩ : ∃ A n q, f 43 = .slice A n q := by
  obtain ⟨A, q, e, _⟩ := (h.sentSl (c := 2) (by omega)).shape
  exact ⟨A, _, q, e⟩
 have y2 := (n0.cell (p := ⟨P, 43, none⟩) hP).trans (h.row.cell (j := 43) (by omega))
 rw [hf2'] at y2
 obtain ⟨A3, l3, q3, hf3'⟩ : ∃ A n q, f 44 = .slice A n q := by
  obtain ⟨A, q, e, _⟩ := (h.sentSl (c := 3) (by omega)).shape
  exact ⟨A, _, q, e⟩
 have y3 := (n0.cell (p := ⟨P, 44, none⟩) hP).trans (h.row.cell (j := 44) (by omega))
 rw [hf3'] at y3
 obtain ⟨A4, l4, q4, hf4'⟩ : ∃ A n q, f 45 = .slice A n q := by
  obtain ⟨A, q, e, _⟩ := (h.sentSl (c := 4) (by omega)).shape
  exact ⟨A, _, q, e⟩
 have y4 := (n0.cell (p := ⟨P, 45, none⟩) hP).trans (h.row.cell (j := 45) (by omega))
 rw [hf4'] at y4
 obtain ⟨A5, l5, q5, hf5'⟩ : ∃ A n q, f 46 = .slice A n q := by
  obtain ⟨A, q, e, _⟩ := (h.sentSl (c := 5) (by omega)).shape
  exact ⟨A, _, q, e⟩
 have y5 := (n0.cell (p := ⟨P, 46, none⟩) hP).trans (h.row.cell (j := 46) (by omega))
 rw [hf5'] at y5
 have HR0 : Hid (OutRel w w.heap.size (w.heap.size + 1) m.sent 0 ((w.alloc (.cells #[.slice none 0 0, .slice none 0 0, .slice none 0 0] 29)).alloc (.cells #[.string ⟨#[]⟩, .string ⟨#[]⟩, .string ⟨#[]⟩, .string ⟨#[]⟩, .string ⟨#[]⟩, .string ⟨#[]⟩] 9))) := jD ⟨X2, X1, n0⟩
 have HH := jD h
 have HI := jD hI
 have HS6 := jD hs6
 have hQs : P < w.heap.size + 1 + 1 := by omega
 have hmk := make_str6
 clear h hI X1 X2 n0 hs6
 unfold ptr
 go_enter Tryz.func26, Tryz.ntmps26
 go_wp2_with fail
 go_loopw [11] (fun i wr => ∃ k : Nat, k ≤ 6 ∧ i = .int .i64 k ∧ Hid (OutRel w w.heap.size (w.heap.size + 1) m.sent k wr)) (fun i _ => 6 - (intOf i).toNat)
 case atStart => exact ⟨0, by omega, rfl, HR0.out⟩
 case round =>
  obtain ⟨k, hk, rfl, HZ⟩ := hrel
  have hQl := HZ.out.1.lt
  have hRl := HZ.out.2.1.lt
  by_cases hlt : k < 6
  ·have hkm : k < m.sent.length := by rw [HS6.out]; exact hlt
   have hln : (((m.sent.take k).map Value.string)).length = k := by rw [List.length_map, List.length_take]; omega
   obtain ⟨u, hu⟩ := HZ.out.1.any (j := k) (by omega)
   have hfz := HZ.out.1.frozen k
   have hcv := sent_conv HH.out hlt HZ.out.2.2
   have hpush := HZ.out.1.push (by rw [hln]; exact hlt) (.string (m.sent.getD k ⟨#[]⟩)) (j := k) hln.symm
   have htk : (m.sent.take k).map Value.string ++ [.string (m.sent.getD k ⟨#[]⟩)] = (m.sent.take (k + 1)).map Value.string := by
    rw [List.take_succ_eq_append_getElem hkm, List.map_append, List.getD_eq_getElem?_getD, List.getElem?_eq_getElem hkm]; rfl
   rw [htk] at hpush
   have hkI : (k : Int) < 6 := by omega
   have HZ2 : Hid (OutRel w w.heap.size (w.heap.size + 1) m.sent (k + 1) (wr.setCell ⟨w.heap.size + 1, k, none⟩ (.string (m.sent.getD k ⟨#[]⟩)))) := jD ⟨hpush, HZ.out.2.1.other (by show w.heap.size + 1 ≠ w.heap.size; omega) _, HZ.out.2.2.setCell (p := ⟨w.heap.size + 1, k, none⟩) (by show w.heap.size ≤ w.heap.size + 1; omega) _⟩
   clear hpush htk hln hkm HR0
   generalize m.sent.getD k ⟨#[]⟩ = sk at *
   obtain rfl | rfl | rfl | rfl | rfl | rfl : k = 0 ∨ k = 1 ∨ k = 2 ∨ k = 3 ∨ k = 4 ∨ k = 5 := by omega
   ·have hcv' : (convert 80 9 (f 41)).run Tryz.prog wr = .ok (.string sk) wr := hcv
    rw [hf0'] at hcv'
    clear hcv
    have hix := idx0
    go_wp2
    go_roundw
    case rel => exact ⟨0 + 1, by omega, by go_num, HZ2.out⟩
    case measure => simp [intOf]
   ·have hcv' : (convert 80 9 (f 42)).run Tryz.prog wr = .ok (.string sk) wr := hcv
    rw [hf1'] at hcv'
    clear hcv
    have hix := idx1
    go_wp2
    go_roundw
    case rel => exact ⟨1 + 1, by omega, by go_num, HZ2.out⟩
    case measure => simp [intOf]
   ·have hcv' : (convert 80 9 (f 43)).run Tryz.prog wr = .ok (.string sk) wr := hcv
    rw [hf2'] at hcv'
    clear hcv
    have hix := idx2
    go_wp2
    go_roundw
    case rel => exact ⟨2 + 1, by omega, by go_num, HZ2.out⟩
    case measure => simp [intOf]
   ·have hcv' : (convert 80 9 (f 44)).run Tryz.prog wr = .ok (.string sk) wr := hcv
    rw [hf3'] at hcv'
    clear hcv
    have hix := idx3
    go_wp2
    go_roundw
    case rel => exact ⟨3 + 1, by omega, by go_num, HZ2.out⟩
    case measure => simp [intOf]
   ·have hcv' : (convert 80 9 (f 45)).run Tryz.prog wr = .ok (.string sk) wr := hcv
    rw [hf4'] at hcv'
    clear hcv
    have hix := idx4
    go_wp2
    go_roundw
    case rel => exact ⟨4 + 1, by omega, by go_num, HZ2.out⟩
    case measure => simp [intOf]
   ·have hcv' : (convert 80 9 (f 46)).run Tryz.prog wr = .ok (.string sk) wr := hcv
    rw [hf5'] at hcv'
    clear hcv
    have hix := idx5
    go_wp2
    go_roundw
    case rel => exact ⟨5 + 1, by omega, by go_num, HZ2.out⟩
    case measure => simp [intOf]
  ·obtain rfl : k = 6 := by omega
   have hB := HZ.out.2.2
   have hM := HH.out.below hB
   have c47 := hM.row.cell (j := 47) (by omega)
   have c1 := hM.row.cell (j := 1) (by omega)
   have hPr := hM.row.lt
   obtain ⟨D4, d4, hf47, _⟩ := (HH.out.sl 15 (by omega) (by omega) (by omega)).shape
   rw [items_deeds, List.length_map] at hf47
   have hf47' : f 47 = .slice D4 m.deeds.length d4 := hf47
   obtain ⟨E1, e1, hf1, _⟩ := HH.out.wld.wld.rows.form
   rw [hf47'] at c47
   rw [hf1] at c1
   have hD := HI.out.deeds hN
   have hTk : m.sent.take 6 = m.sent := List.take_of_length_le (by rw [HS6.out]; exact nL _)
   have HSZ := jD (show ∀ t ∈ m.sent, t.size ≤ 100000000 from fun t ht => by
    obtain ⟨i, hi, rfl⟩ := List.getElem_of_mem ht
    have := HI.out.sent hN i
    rw [List.getD_eq_getElem?_getD, List.getElem?_eq_getElem hi] at this
    exact this)
   have X1 := HZ.out.2.1
   obtain ⟨r0, r1, r2⟩ := cells3 X1
   have z0 := X1.frozen 0
   have z1 := X1.frozen 1
   have z2 := X1.frozen 2
   -- the result
   have hFin : ∀ wf : World, wf = ((((wr.setCell ⟨w.heap.size, 0, none⟩ (.slice (some ⟨w.heap.size + 1, 0, none⟩) 6 6)).setCell ⟨w.heap.size, 1, none⟩ (.slice D4 m.deeds.length d4)).setCell ⟨w.heap.size, 2, none⟩ (.slice E1 m.e.w.rows.length e1)).drew) → OutV wf (.slice (some ⟨w.heap.size + 1, 0, none⟩) 6 6) (.slice D4 m.deeds.length d4) (.slice E1 m.e.w.rows.length e1) m.sent m.deeds m.e.w.rows ∧ Below w.heap.size w wf ∧ RowTo wf w.heap.size 29 3 [.slice (some ⟨w.heap.size + 1, 0, none⟩) 6 6, .slice D4 m.deeds.length d4, .slice E1 m.e.w.rows.length e1] := by
    intro wf hwf
    subst hwf
    have hBf : Below w.heap.size w ((((wr.setCell ⟨w.heap.size, 0, none⟩ (.slice (some ⟨w.heap.size + 1, 0, none⟩) 6 6)).setCell ⟨w.heap.size, 1, none⟩ (.slice D4 m.deeds.length d4)).setCell ⟨w.heap.size, 2, none⟩ (.slice E1 m.e.w.rows.length e1)).drew) := (((hB.setCell (p := ⟨w.heap.size, 0, none⟩) (nL _) _).setCell (p := ⟨w.heap.size, 1, none⟩) (nL _) _).setCell (p := ⟨w.heap.size, 2, none⟩) (nL _) _).drew
    have hMf := HH.out.below hBf
    have hQf := (((HZ.out.1.other (p := ⟨w.heap.size, 0, none⟩) (by show w.heap.size ≠ w.heap.size + 1; omega) (.slice (some ⟨w.heap.size + 1, 0, none⟩) 6 6)).other (p := ⟨w.heap.size, 1, none⟩) (by show w.heap.size ≠ w.heap.size + 1; omega) (.slice D4 m.deeds.length d4)).other (p := ⟨w.heap.size, 2, none⟩) (by show w.heap.size ≠ w.heap.size + 1; omega) (.slice E1 m.e.w.rows.length e1)).drew
    rw [hTk] at hQf
    have hTL := row_tlst (c := 6) hQf (by rw [HS6.out]; exact nL _) (by rw [HS6.out]; omega) HSZ.out
    rw [HS6.out] at hTL
    have hsl := hMf.sl 15 (by omega) (by omega) (by omega)
    rw [items_deeds, List.length_map] at hsl
    have hsl' : Sl _ 70 7 (f 47) (G 15) m.deeds.length (m.deeds.map deedV).flatten := hsl
    rw [hf47'] at hsl'
    have hrow := hMf.wld.wld.rows
    rw [hf1] at hrow
    exact ⟨⟨hTL, sl_dlst hsl' (by omega) (fun b hb => (hMf.lo 15 b hb).2), hrow⟩, hBf, (((X1.put (j := 0) (by simp) _).put (j := 1) (by simp) _).put (j := 2) (by simp) _).drew⟩
   obtain ⟨nd, HND⟩ : ∃ n, Hid (m.deeds.length = n) := ⟨_, jD rfl⟩
   obtain ⟨nr, HNR⟩ : ∃ n, Hid (m.e.w.rows.length = n) := ⟨_, jD rfl⟩
   rw [HND.out] at c47 hFin
   rw [HNR.out] at c1 hFin
   have HFin := jD hFin
   clear hFin hM hB X1 hf47 hf47' hf1 hTk HSZ hD HND HNR HR0 y0 y1 y2 y3 y4 y5
   go_wp2_with fail
   refine wp_region_z 11 (fun wx => wx.cell? ⟨P, 47, none⟩ = some (.slice D4 nd d4) ∧ wx.cell? ⟨P, 1, none⟩ = some (.slice E1 nr e1)) (by kernel_rfl) (show wr.drew.cell? ⟨P, 47, none⟩ = some (.slice D4 nd d4) ∧ wr.drew.cell? ⟨P, 1, none⟩ = some (.slice E1 nr e1) from ⟨c47, c1⟩) (fun hS => ?_)
   refine tkE [(0, []), (1, []), (2, []), (3, []), (4, []), (5, []), (6, []), (7, []), (8, []), (9, []), (10, [])] ?_
   iterate 11
    refine tkS (v := ?_) hS ?_ ?_
    rotate_left
    ·(intro w hSw; (try dsimp only at hSw); (try simp only [gTA, gCZ, gCS]); go_simp; try with_reducible rfl)
    (try simp only [gTA, gCZ, gCS, Act.put, sTA, sCZ, sCS])
   refine tkF ?_
   refine wpAnyZ_last rfl rfl (by kernel_rfl) (by kernel_rfl) (fun K hK => ?_)
   (try simp only [gTA, gCZ, gCS])
   go_simp
   refine hK.out _ _ ?_
   clear hK K
   (try simp only [gTA, gCZ, gCS, Act.put, sTA, sCZ, sCS])
   go_wp2
   generalize hWF : (((wr.setCell ⟨w.heap.size, 0, none⟩ (.slice (some ⟨w.heap.size + 1, 0, none⟩) 6 6)).setCell ⟨w.heap.size, 1, none⟩ (.slice D4 nd d4)).setCell ⟨w.heap.size, 2, none⟩ (.slice E1 nr e1)).drew = WF at *
   obtain ⟨hO, hBB, hRow⟩ := HFin.out WF rfl
   obtain ⟨t0, t1, t2⟩ := cells3 hRow
   refine bodyPost_ret (v := .agg #[.slice (some ⟨w.heap.size + 1, 0, none⟩) 6 6, .slice D4 nd d4, .slice E1 nr e1]) (by simp [results, Tryz.results26, go_sem, t0, t1, t2]) rfl ⟨_, _, _, rfl, hO, hBB⟩
end
end Go.Proofs.YtpbaobmegomfpabGreatDoor
