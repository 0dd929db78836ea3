/-
  Texts of the proof, one behind the other: WTopPrivate.
-/
import Derived.Test.YtpbaobmegomfpabGreatDoorTTopPrivate1
import Derived.Test.YtpbaobmegomfpabGreatDoorTTopPrivate2
import Derived.Test.YtpbaobmegomfpabGreatDoorM34
import Derived.Test.YtpbaobmegomfpabGreatDoorM27
set_option linter.unusedVariables false
set_option linter.unusedSimpArgs false
set_option maxRecDepth 100000
open List renaming getElem_toArray → gTA, getElem_cons_zero → gCZ, getElem_cons_succ → gCS, setIfInBounds_toArray → sTA, set_cons_zero → sCZ, set_cons_succ → sCS
open Go.Lib renaming hid → jD
open Nat renaming le_refl → nL
namespace Go.Proofs.YtpbaobmegomfpabGreatDoor
open Go.RowKit
structure PrvAt (w wr : World) (B bO bW : Nat) (v1 v2 v3 r s : Value) (W : Wd) (snt : List ByteArray) (ds : List Deed) (rows : PL) : Prop where
 o : RowTo wr bO 29 3 [v1, v2, v3]
 x : RowTo wr bW 39 2 [r, s]
 d : DLst wr B v2 ds
 rw : Lst wr B v3 rows
 wld : Wld wr wr.heap.size r s W
 ob : bO < bW
 bb : B ≤ bW
 wb : w.heap.size ≤ bW
 bel : Below w.heap.size w wr
theorem PrvAt.below {w wr w' : World} {B bO bW : Nat} {v1 v2 v3 r s : Value} {W : Wd} {snt : List ByteArray} {ds : List Deed} {rows : PL} (h : PrvAt w wr B bO bW v1 v2 v3 r s W snt ds rows) (hb : Below wr.heap.size wr w') : PrvAt w w' B bO bW v1 v2 v3 r s W snt ds rows := by
 have hB : B ≤ wr.heap.size := Nat.le_trans h.bb (Nat.le_of_lt h.x.lt)
 exact ⟨h.o.below hb h.o.lt, h.x.below hb h.x.lt, h.d.keep (nL _) (fun p hp => hb.cell (Nat.lt_of_lt_of_le hp hB)), h.rw.below (hb.mono hB), h.wld.step hb, h.ob, h.bb, h.wb, bel_add' h.bel hb h.bel.size⟩
theorem PrvAt.next {w wr : World} {B bO bW : Nat} {v1 v2 v3 r2 s2 : Value} {D A : Option Addr} {n d m c : Nat} {W V : Wd} {snt : List ByteArray} {ds : List Deed} {rows : PL} (h : PrvAt w wr B bO bW v1 v2 v3 (.slice D n d) (.slice A m c) W snt ds rows) (hw : Wld wr wr.heap.size r2 s2 V) :
  PrvAt w ((wr.setCell ⟨bW, 0, none⟩ r2).setCell ⟨bW, 1, none⟩ s2) B bO bW v1 v2 v3 r2 s2 V snt ds rows := by
 have hk : ∀ b, b ≠ bW → ((wr.setCell ⟨bW, 0, none⟩ r2).setCell ⟨bW, 1, none⟩ s2).heap[b]? = wr.heap[b]? := fun b hb => by rw [Below.heap_setCell _ _ _ _ hb, Below.heap_setCell _ _ _ _ hb]
 have hob := h.ob
 have hbb := h.bb
 refine ⟨h.o.oth2 (by omega) _ _, h.x.set2 _ _, h.d.keep (nL _) (fun p hp => World.cell?_of_block (hk _ (by omega))), ?_, hw.set2 h.x _ _, h.ob, h.bb, h.wb, bel_set2 h.bel h.wb _ _⟩
 exact h.rw.keep (nL _) (fun p hp => World.cell?_of_block (hk _ (by omega)))
theorem topPrivate.laidFacts {W : World} (h : laidMetH Tryz.prog Rows.topPrivateRow.laid W) : Tabs W W.heap.size :=
 tabs_of (words_of h (by simp [Rows.topPrivateRow, Rows.laid_tillerman_say_words, List.range, List.range.loop, wordL])) (leads_of h (by simp [Rows.topPrivateRow, Rows.laid_tillerman_say_leads, List.range, List.range.loop, leadL]))
theorem top_private_pool {mode : Int} {n : Nat} (hn : n ≤ 8) {l : List Act} (hl : actsE l = 0) (hs : ∀ a ∈ l, a.kind = 1 ∧ No88 a.data) : ∃ V, Rep houseStart (ranM mode n l).deeds V ∧ V.rows = (ranM mode n l).e.w.rows := by
 have ha := pool_house hn mode hl
 have hr := top_private (mode := mode) (n := n) hl hs
 exact ⟨_, by unfold ranM; rw [ha.deeds]; exact hr, ha.rows.symm⟩
def PrvRel (w : World) (B bO bW : Nat) (v1 v2 v3 : Value) (V : Wd) (snt : List ByteArray) (ds : List Deed) (rows : PL) (k : Nat) (wr : World) : Prop :=
 ∃ D d A c, ∃ W : Wd, PrvAt w wr B bO bW v1 v2 v3 (.slice D W.rows.length d) (.slice A W.ss.length c) W snt ds rows ∧ Rep W (ds.drop k) V ∧ WorldOk W ∧ W.ss.length = 6
set_option maxHeartbeats 4000000 in
theorem walk_TopPrivate (v : Value) (l : List Raw) (mode srv : Int) (w : World) (hl : RLst w w.heap.size v l) (hm : (Lit.int .i64 mode).wf = true) (hs : (Lit.int .i64 srv).wf = true) (hT : Tabs w w.heap.size) :
  Calls Tryz.prog 6 #[v, .int .i64 mode, .int .i64 srv] w fun e w' => e = .returned (.bool true) ∧ Below w.heap.size w w' := by
 have hmb := i64_bd hm
 have hsb := i64_bd hs
 have hu := setupR_E mode srv
 have hE := run_E hu (Nat.le_trans (stayR_len (l := l) (most := 60) (n := 5)) (by omega)) (stayR_E (l := l) (most := 60) (n := 5) (by omega) (by omega))
 have hq := pickI_bd srv (m := 4) (by omega)
 have hpp := top_private_pool (mode := 1 + pickI mode 3) (n := (1 + pickI srv 4).toNat) (by omega) (stayR_E (l := l) (most := 60) (n := 5) (by omega) (by omega)) stayR_no
 have HS := jD (setup_any mode srv w hmb.1 hmb.2 hsb.1 hsb.2)
 have HT := jD hT
 have HA := jD (fun (wc : World) (h : Below w.heap.size w wc) => staying_any v l 60 5 wc (hl.step h) (hT.below h).wo (by omega) (by omega) (by omega))
 have HP := jD (fun (out : Value) (wc : World) (h : ALst wc wc.heap.size out (stayR l 60 5)) (hb : Below w.heap.size w wc) => playedT_any (1 + pickI mode 3) (1 + pickI srv 4) out _ wc h ((hT.below hb).up hb.size) hE)
 obtain ⟨E, e, rfl, he⟩ := hl.form
 generalize ranM (1 + pickI mode 3) (1 + pickI srv 4).toNat (stayR l 60 5) = m at *
 obtain ⟨V, hrep, hrows⟩ := hpp
 have HV := jD (And.intro hrep hrows)
 generalize stayR l 60 5 = al at *
 generalize 1 + pickI mode 3 = md at *
 generalize 1 + pickI srv 4 = sv at *
 have hmk : ∀ wc : World, (Instr.makeSlice 37 (.int .i64 6) (.int .i64 6)).run Tryz.prog wc = .ok (.slice (some ⟨wc.heap.size, 0, none⟩) 6 6) (wc.alloc (.cells (madeCells (Value.agg #[.int .i64 0, .slice none 0 0, .slice none 0 0, .slice none 0 0, .slice none 0 0]).cells (6 * 5)) 115)) := fun wc => make_sess 6 (by omega) wc
 clear hmb hsb hu hE hq hrep hrows hl hm hs hT
 go_enter Tryz.func6, Tryz.ntmps6
 go_wp2_with fail
 refine HS.out.mono ?_
 rintro e1 w1 ⟨rfl, hb1⟩
 go_wp2_with fail
 refine (HA.out _ hb1).mono ?_
 rintro e2 w2 ⟨out, rfl, ha, hb2⟩
 have HB2 := jD (bel_trans hb1 hb2)
 obtain ⟨A0, c0, rfl, _⟩ := ha.form
 go_wp2_with fail
 refine (HP.out _ _ ha HB2.out).mono ?_
 rintro e3 w3 ⟨v1, v2, v3, rfl, ho, hb3⟩
 obtain ⟨A1, c1, rfl, _⟩ := ho.s.form
 obtain ⟨A2, c2, rfl, _⟩ := ho.d.form
 obtain ⟨A3, c3, rfl, _⟩ := ho.r.form
 have hsm := ho.d.small
 have HO := jD ho
 have HB3 := jD (bel_trans HB2.out hb3)
 clear ho hb3 ha hb1 hb2 HS HA HP
 go_wp2_with fail
 go_loopw [31] (fun j wr => ∃ k : Nat, k ≤ m.deeds.length ∧ j = .int .i64 k ∧ Hid (PrvRel w w3.heap.size w3.heap.size (w3.heap.size + 1 + 1) (.slice A1 m.sent.length c1) (.slice A2 m.deeds.length c2) (.slice A3 m.e.w.rows.length c3) V m.sent m.deeds m.e.w.rows k wr)) (fun j _ => m.deeds.length - (intOf j).toNat)
 case atStart =>
  have b1 := (Below.refl w3.heap.size w3).alloc (nL _) (.cells #[.slice A1 m.sent.length c1, .slice A2 m.deeds.length c2, .slice A3 m.e.w.rows.length c3] 29)
  have b2 := b1.alloc (by simp) (.cells (madeCells #[.int .i64 0, .slice none 0 0, .slice none 0 0, .slice none 0 0, .slice none 0 0] 30) 115)
  have b3 := b2.alloc (by simp; omega) (.cells #[.slice none 0 0, .slice (some ⟨w3.heap.size + 1, 0, none⟩) 6 6] 39)
  have x1 := ((RowTo.whole w3 #[.slice A1 m.sent.length c1, .slice A2 m.deeds.length c2, .slice A3 m.e.w.rows.length c3] 29).alloc (.cells (madeCells #[.int .i64 0, .slice none 0 0, .slice none 0 0, .slice none 0 0, .slice none 0 0] 30) 115)).alloc (.cells #[.slice none 0 0, .slice (some ⟨w3.heap.size + 1, 0, none⟩) 6 6] 39)
  have x2 := (RowTo.whole (w3.alloc (.cells #[.slice A1 m.sent.length c1, .slice A2 m.deeds.length c2, .slice A3 m.e.w.rows.length c3] 29)) (madeCells #[.int .i64 0, .slice none 0 0, .slice none 0 0, .slice none 0 0, .slice none 0 0] (6 * 5)) 115).alloc (.cells #[.slice none 0 0, .slice (some ⟨w3.heap.size + 1, 0, none⟩) 6 6] 39)
  have x3 := RowTo.whole ((w3.alloc (.cells #[.slice A1 m.sent.length c1, .slice A2 m.deeds.length c2, .slice A3 m.e.w.rows.length c3] 29)).alloc (.cells (madeCells #[.int .i64 0, .slice none 0 0, .slice none 0 0, .slice none 0 0, .slice none 0 0] 30) 115)) #[.slice none 0 0, .slice (some ⟨w3.heap.size + 1, 0, none⟩) 6 6] 39
  rw [madeCells_size] at x2
  simp only [World.size_alloc] at x2 x3
  have hs := made_sess x2 (by omega)
  have hB3 := HB3.out.size
  exact ⟨0, by omega, rfl, none, 0, some ⟨w3.heap.size + 1, 0, none⟩, 6, houseStart, ⟨x1, x3, HO.out.d.keep (nL _) (fun q hq => b3.cell hq), HO.out.r.below b3, ⟨Lst.none_ _ _, hs⟩, by omega, by omega, by omega, bel_add' HB3.out b3 hB3⟩, HV.out.1, zeros_ok (by omega), rfl⟩
 case round =>
  obtain ⟨k, hk, rfl, HR⟩ := hrel
  obtain ⟨D, d, A, c, W, hP, hRep, hok, hss⟩ := HR.out
  have HSS := jD hss
  clear hss
  clear HO HB3 HR
  obtain ⟨a0, a1⟩ := cells2 hP.x
  obtain ⟨o0, o1, o2⟩ := cells3 hP.o
  have hal := hP.x.lt
  have hol := hP.o.lt
  by_cases hlt : k < m.deeds.length
  ·have HLT := jD hlt
   have hds : m.deeds.drop k = m.deeds[k] :: m.deeds.drop (k + 1) := List.drop_eq_getElem_cons hlt
   rw [hds] at hRep
   obtain ⟨b, off, rfl, hb, l0, l1, l2, l3, l4, l5, l6⟩ := hP.d.pt hlt
   generalize m.deeds[k] = x at *
   clear hds
   obtain ⟨r1, r2, r3, r4, r5⟩ := hRep
   have hcl : x.c < W.ss.length := by have := HSS.out; omega
   have HW2 := jD (doR_ok hok hcl r4)
   have hdo := fun (r s : Value) (wc : World) (h1 : Wld wc wc.heap.size r s W) (h2 : Words wc) => do_any r s W x.c x.r.k x.r.key x.r.val wc h1 h2 hok hcl r4
   have hq : doM W x.c x.r.k x.r.key x.r.val = doR W x.c x.r := rfl
   rw [hq, r1, r2] at hdo
   generalize (doR W x.c x.r).1 = W2 at *
   have HDO := jD hdo
   have HR5 := jD (And.intro r5 (show W2.ss.length = 6 by have := HW2.out.2; have := HSS.out; omega))
   have nd := (Below.refl wr.heap.size wr).alloc (nL _) (.cells #[.int .i64 x.c, .int .i64 x.r.k, .string x.r.key, .string x.r.val, .int .i64 x.a.kind, .string x.a.text, .int .i64 x.st] 70)
   have HP1 := jD (hP.below nd)
   have xd := RowTo.whole wr #[.int .i64 x.c, .int .i64 x.r.k, .string x.r.key, .string x.r.val, .int .i64 x.a.kind, .string x.a.text, .int .i64 x.st] 70
   have HXD := jD xd
   have hcI : ∀ j u, [.int .i64 x.c, .int .i64 x.r.k, .string x.r.key, .string x.r.val, .int .i64 x.a.kind, .string x.a.text, .int .i64 x.st][j]? = some u → (wr.alloc (.cells #[.int .i64 x.c, .int .i64 x.r.k, .string x.r.key, .string x.r.val, .int .i64 x.a.kind, .string x.a.text, .int .i64 x.st] 70)).cell? ⟨wr.heap.size, j, none⟩ = some u := fun j u hu => by
    obtain ⟨hj, hu⟩ := List.getElem?_eq_some_iff.1 hu
    rw [← hu]; exact xd.cell hj
   have HTW := jD (fun (wc : World) (h : Below w.heap.size w wc) => (HT.out.below h).wo)
   clear hP hok hdo r1 r2 r3 r4 r5 nd xd HV hcI
   go_wp2_with fail
   refine (HDO.out _ _ _ HP1.out.wld (HTW.out _ HP1.out.bel)).mono ?_
   rintro e4 w4 ⟨r2, s2, rfl, hw4, hb4⟩
   obtain ⟨D2, d2, rfl, _⟩ := hw4.rows.form
   obtain ⟨E2, e2', rfl, _⟩ := hw4.sess.form
   have nn := ((Below.refl w4.heap.size w4).alloc (nL _) (.cells #[.slice D2 W2.rows.length d2, .slice E2 W2.ss.length e2'] 39)).alloc (by simp) (.cells #[.int .i64 x.a.kind, .string x.a.text, .int .i64 x.st] 46)
   have hP4 := (HP1.out.below hb4).below nn
   have hX4 := (HXD.out.below hb4 HXD.out.lt).below nn (HXD.out.below hb4 HXD.out.lt).lt
   have z4 := hX4.cell (j := 4) (by simp)
   have z5 := hX4.cell (j := 5) (by simp)
   have z6 := hX4.cell (j := 6) (by simp)
   simp only [gCZ, gCS] at z4 z5 z6
   have hXl := hX4.lt
   have g0 := hP4.x.frozen 0
   have g1 := hP4.x.frozen 1
   obtain ⟨q0, q1⟩ := cells2 hP4.x
   obtain ⟨o0, o1, o2⟩ := cells3 hP4.o
   have hql := hP4.x.lt
   have HF := jD (hP4.next (hw4.step nn))
   clear hP4 hX4 nn hw4 hb4 HP1 HXD HDO
   unfold doGood
   go_wp2
   go_roundw
   case rel => exact ⟨k + 1, Nat.succ_le_of_lt HLT.out, by go_num, _, _, _, _, W2, HF.out, HR5.out.1, HW2.out.1, HR5.out.2⟩
   case measure => have := HLT.out; simp [intOf]; omega
  ·obtain rfl : k = m.deeds.length := by omega
   rw [List.drop_length] at hRep
   have hVW : V = W := hRep
   have hpr := hP.wld.rows
   rw [← hVW, HV.out.2] at hpr
   have HE := jD (equalP_same _ _ m.e.w.rows wr wr.heap.size hpr (hP.rw.more (Nat.le_of_lt (Nat.lt_of_le_of_lt hP.bb hP.x.lt))))
   have HB := jD hP.bel
   rw [show W.rows.length = m.e.w.rows.length by rw [← hVW, HV.out.2]] at a0
   clear hpr hP hRep hVW hok
   go_wp2_with fail
   refine HE.out.mono ?_
   rintro e4 w4 ⟨rfl, n4, rfl⟩
   go_wp2
   go_ret
   exact ⟨rfl, below_drewN HB.out _⟩
end Go.Proofs.YtpbaobmegomfpabGreatDoor
