/-
  Texts of the proof, one behind the other: TopHd, ContD, LeakC, WTopCommitted.
-/
import Derived.Test.YtpbaobmegomfpacGreatDoorM41
import Derived.Test.YtpbaobmegomfpacGreatDoorM43
import Derived.Test.YtpbaobmegomfpacGreatDoorM24
import Derived.Test.YtpbaobmegomfpacGreatDoorM38
import Derived.Test.YtpbaobmegomfpacGreatDoorRows
import Derived.WalkKit
import Derived.WalkSpells
import Derived.WalkLawsBesides
import Derived.Lib.Hide
import Derived.IntWalk
import Derived.WalkSmall
import Derived.Deep.Upon
set_option linter.unusedVariables false
set_option linter.unusedSimpArgs false
set_option maxRecDepth 100000
open List renaming getElem_toArray → gTA, getElem_cons_zero → gCZ, getElem_cons_succ → gCS, setIfInBounds_toArray → sTA, set_cons_zero → sCZ, set_cons_succ → sCS
open Go.Lib renaming hid → jD
open Nat renaming le_refl → nL
namespace Go.Proofs.YtpbaobmegomfpacGreatDoor
open Go.RowKit
structure OutAt (w wr : World) (B bO : Nat) (v1 v2 v3 : Value) (snt : List ByteArray) (ds : List Deed) (rows : PL) : Prop where
 o : RowTo wr bO 27 3 [v1, v2, v3]
 s : TLst wr B v1 snt
 d : DLst wr B v2 ds
 r : Lst wr B v3 rows
 bb : B ≤ wr.heap.size
 bel : Below w.heap.size w wr
theorem OutAt.below {w wr w' : World} {B bO : Nat} {v1 v2 v3 : Value} {snt : List ByteArray} {ds : List Deed} {rows : PL} (h : OutAt w wr B bO v1 v2 v3 snt ds rows) (hb : Below wr.heap.size wr w') : OutAt w w' B bO v1 v2 v3 snt ds rows := by
 have hbb := h.bb
 exact ⟨h.o.below hb h.o.lt, h.s.keep (nL _) (fun p hp => hb.cell (Nat.lt_of_lt_of_le hp hbb)), h.d.keep (nL _) (fun p hp => hb.cell (Nat.lt_of_lt_of_le hp hbb)), h.r.below (hb.mono hbb), Nat.le_trans hbb hb.size, bel_add' h.bel hb h.bel.size⟩
theorem OutAt.new {w w3 : World} {v1 v2 v3 : Value} {snt : List ByteArray} {ds : List Deed} {rows : PL} (h : OutV w3 v1 v2 v3 snt ds rows) (hb : Below w.heap.size w w3) : OutAt w (w3.alloc (.cells #[v1, v2, v3] 27)) w3.heap.size w3.heap.size v1 v2 v3 snt ds rows := by
 have n := (Below.refl w3.heap.size w3).alloc (nL _) (.cells #[v1, v2, v3] 27)
 exact ⟨RowTo.whole w3 #[v1, v2, v3] _, h.s.keep (nL _) (fun p hp => n.cell hp), h.d.keep (nL _) (fun p hp => n.cell hp), h.r.below n, n.size, bel_add' hb n hb.size⟩
theorem DLst.take {w : World} {B n c : Nat} {A : Option Addr} {l : List Deed} (h : DLst w B (.slice A n c) l) (hn : n = l.length) {k : Nat} (hk : k ≤ l.length) : DLst w B (.slice A k c) (l.take k) := by
 have hl : (l.take k).length = k := by rw [List.length_take]; omega
 obtain ⟨A', c', e, hc⟩ := h.form
 injection e with e1 e2 e3
 refine ⟨⟨A, c, by rw [hl], by omega⟩, by rw [hl]; have := h.small; omega, fun hp => ?_⟩
 rw [hl] at hp
 obtain ⟨b, off, c'', e, hb, hcell⟩ := h.cells (by omega)
 injection e with e1 e2 e3
 subst e1 e3
 refine ⟨b, off, c, by rw [hl], hb, fun i hi j u hu => hcell i (by omega) j u ?_⟩
 rw [List.getElem_take] at hu
 exact hu
set_option maxHeartbeats 400000 in
theorem indexDC (lb : Value) (p : Deed → Prop) (v : Value) (l : List Deed) (w : World) (B : Nat) (hl : DLst w B v l) (hB : B ≤ w.heap.size) (hex : ∃ x ∈ l, p x)
  (hp : ∀ x ∈ l, ∀ wc, Below w.heap.size w wc → Calls Tryz.prog 22 #[.agg #[.int .i64 x.c, .int .i64 x.r.k, .string x.r.key, .string x.r.val, .int .i64 x.a.kind, .string x.a.text, .int .i64 x.st], lb] wc fun e w' => (∃ q, e = .returned (.bool q) ∧ (p x → q = true)) ∧ Below wc.heap.size wc w') :
  Calls Tryz.prog 34 #[v, .func (.func 22) #[] #[lb]] w fun e w' => (∃ i : Nat, e = .returned (.int .i64 i)) ∧ Below w.heap.size w w' := by
 obtain ⟨A, c, rfl, hc⟩ := hl.form
 have hby := hl.small
 have HL := jD hl
 have HP := jD hp
 have HX := jD (show ¬ (∀ x ∈ l, ¬ p x) from fun h => by obtain ⟨x, hx, hpx⟩ := hex; exact h x hx hpx)
 clear hl hp hex
 go_enter Tryz.func34, Tryz.ntmps34
 go_wp2
 go_loopw [8] (fun i wr => ∃ k : Nat, k ≤ l.length ∧ i = .int .i64 k ∧ Hid ((∀ x ∈ l.take k, ¬ p x) ∧ Below w.heap.size w wr)) (fun i _ => l.length - (intOf i).toNat)
 case atStart => exact ⟨0, by omega, rfl, (fun x hx => by simp at hx), Below.refl _ _⟩
 case round =>
  obtain ⟨k, hk, rfl, HZ⟩ := hrel
  by_cases hlt : k < l.length
  ·obtain ⟨b, off, rfl, hb, a0, a1, a2, a3, a4, a5, a6⟩ := (HL.out.keep (w' := wr) (nL _) (fun q hq => HZ.out.2.cell (Nat.lt_of_lt_of_le hq hB))).pt hlt
   have HC := jD (HP.out l[k] (List.getElem_mem hlt) wr HZ.out.2)
   have HF := jD (fun (h : ¬ p l[k]) => (show ∀ x ∈ l.take (k + 1), ¬ p x from fun x hx => by
    rw [List.take_succ_eq_append_getElem hlt] at hx
    rcases List.mem_append.1 hx with hx | hx
    ·exact HZ.out.1 x hx
    ·rw [List.mem_singleton.1 hx]; exact h))
   have HZ2 := jD HZ.out.2
   generalize l[k] = x at *
   clear HZ
   go_wp2_with fail
   refine HC.out.mono ?_
   rintro e w2 ⟨⟨q, rfl, hq⟩, hb2⟩
   have HB2 := jD (HZ2.out.trans (hb2.mono HZ2.out.size))
   have HQ := jD hq
   clear hb2 hq HC
   cases q with
   | true =>
    go_wp2
    go_ret
    exact ⟨⟨k, rfl⟩, HB2.out⟩
   | false =>
    have HF2 := jD (HF.out fun h => by cases HQ.out h)
    clear HF
    go_wp2
    go_roundw
    case rel => exact ⟨k + 1, by omega, by go_num, HF2.out, HB2.out⟩
    case measure => simp [intOf]; omega
  ·obtain rfl : k = l.length := by omega
   rw [List.take_length] at HZ
   exact absurd HZ.out.1 HX.out
set_option maxHeartbeats 400000 in
theorem containsDC (lb : Value) (p : Deed → Prop) (v : Value) (l : List Deed) (w : World) (B : Nat) (hl : DLst w B v l) (hB : B ≤ w.heap.size) (hex : ∃ x ∈ l, p x)
  (hp : ∀ x ∈ l, ∀ wc, Below w.heap.size w wc → Calls Tryz.prog 22 #[.agg #[.int .i64 x.c, .int .i64 x.r.k, .string x.r.key, .string x.r.val, .int .i64 x.a.kind, .string x.a.text, .int .i64 x.st], lb] wc fun e w' => (∃ q, e = .returned (.bool q) ∧ (p x → q = true)) ∧ Below wc.heap.size wc w') :
  Calls Tryz.prog 14 #[v, .func (.func 22) #[] #[lb]] w fun e w' => e = .returned (.bool true) ∧ Below w.heap.size w w' := by
 have HI := jD (indexDC lb p v l w B hl hB hex hp)
 obtain ⟨A, c, rfl, hc⟩ := hl.form
 clear hl hp hex
 go_enter Tryz.func14, Tryz.ntmps14
 go_wp2_with fail
 refine HI.out.mono ?_
 rintro e w2 ⟨⟨i, rfl⟩, hb2⟩
 have HB2 := jD hb2
 have hi : decide (0 ≤ (i : Int)) = true := decide_eq_true (by omega)
 clear hb2
 go_wp2
 go_ret
 exact ⟨rfl, HB2.out⟩
set_option maxHeartbeats 1000000 in
theorem commT_any (c : Nat) (st : Int) (txt : ByteArray) (key val : ByteArray) (X : Nat) (w : World) (hX : RowTo w X 56 2 [.string key, .string val]) :
  Calls Tryz.prog 22 #[.agg #[.int .i64 c, .int .i64 10, .string key, .string val, .int .i64 1, .string txt, .int .i64 st], .pointer (some ⟨X, 0, none⟩)] w fun e w' => e = .returned (.bool true) ∧ Below w.heap.size w w' := by
 have x0 := hX.cell (j := 0) (by simp)
 have x1 := hX.cell (j := 1) (by simp)
 have hXl := hX.lt
 simp only [gCZ, gCS] at x0 x1
 clear hX
 go_enter Tryz.func22, Tryz.ntmps22
 go_wp2
 all_goals go_ret
 all_goals exact ⟨rfl, (Below.refl _ _).alloc (nL _) _⟩
set_option maxHeartbeats 1000000 in
theorem commE_any (c : Nat) (st : Int) (txt xk xv : ByteArray) (key val : ByteArray) (X : Nat) (w : World) (hX : RowTo w X 56 2 [.string key, .string val]) :
  Calls Tryz.prog 22 #[.agg #[.int .i64 c, .int .i64 8, .string xk, .string xv, .int .i64 1, .string txt, .int .i64 st], .pointer (some ⟨X, 0, none⟩)] w fun e w' => e = .returned (.bool true) ∧ Below w.heap.size w w' := by
 have x0 := hX.cell (j := 0) (by simp)
 have x1 := hX.cell (j := 1) (by simp)
 have hXl := hX.lt
 simp only [gCZ, gCS] at x0 x1
 clear hX
 go_enter Tryz.func22, Tryz.ntmps22
 go_wp2
 all_goals go_ret
 all_goals exact ⟨rfl, (Below.refl _ _).alloc (nL _) _⟩
set_option maxHeartbeats 1000000 in
theorem commB_any (c : Nat) (k ak st : Int) (txt xk xv : ByteArray) (key val : ByteArray) (X : Nat) (w : World) (hX : RowTo w X 56 2 [.string key, .string val]) :
  Calls Tryz.prog 22 #[.agg #[.int .i64 c, .int .i64 k, .string xk, .string xv, .int .i64 ak, .string txt, .int .i64 st], .pointer (some ⟨X, 0, none⟩)] w fun e w' => (∃ q, e = .returned (.bool q)) ∧ Below w.heap.size w w' := by
 have x0 := hX.cell (j := 0) (by simp)
 have x1 := hX.cell (j := 1) (by simp)
 have hXl := hX.lt
 simp only [gCZ, gCS] at x0 x1
 clear hX
 go_enter Tryz.func22, Tryz.ntmps22
 go_wp2
 all_goals go_ret
 all_goals exact ⟨⟨_, rfl⟩, (Below.refl _ _).alloc (nL _) _⟩
theorem comm_any (p : ByteArray × ByteArray) (x : Deed) (X : Nat) (w : World) (hX : RowTo w X 56 2 [.string p.1, .string p.2]) :
  Calls Tryz.prog 22 #[.agg #[.int .i64 x.c, .int .i64 x.r.k, .string x.r.key, .string x.r.val, .int .i64 x.a.kind, .string x.a.text, .int .i64 x.st], .pointer (some ⟨X, 0, none⟩)] w fun e w' => (∃ q, e = .returned (.bool q) ∧ ((x.a.kind = 1 ∧ (x.r = ⟨10, p.1, p.2⟩ ∨ x.r.k = 8)) → q = true)) ∧ Below w.heap.size w w' := by
 by_cases h : x.a.kind = 1 ∧ (x.r = ⟨10, p.1, p.2⟩ ∨ x.r.k = 8)
 ·obtain ⟨h3, h2 | h2⟩ := h
  ·rw [h2, h3]
   exact (commT_any x.c x.st x.a.text p.1 p.2 X w hX).mono fun e w' h => ⟨⟨true, h.1, fun _ => rfl⟩, h.2⟩
  ·rw [h2, h3]
   exact (commE_any x.c x.st x.a.text x.r.key x.r.val p.1 p.2 X w hX).mono fun e w' h => ⟨⟨true, h.1, fun _ => rfl⟩, h.2⟩
 ·exact (commB_any x.c x.r.k x.a.kind x.st x.a.text x.r.key x.r.val p.1 p.2 X w hX).mono fun e w' hh => ⟨by obtain ⟨q, hq⟩ := hh.1; exact ⟨q, hq, fun h' => absurd h' h⟩, hh.2⟩
theorem topCommitted.laidFacts {W : World} (h : laidMetH Tryz.prog Rows.topCommittedRow.laid W) : Tabs W W.heap.size :=
 tabs_of (words_of h (by simp [Rows.topCommittedRow, Rows.laid_tillerman_say_words, List.range, List.range.loop, wordL])) (leads_of h (by simp [Rows.topCommittedRow, Rows.laid_tillerman_say_leads, List.range, List.range.loop, leadL]))
theorem top_committed_pool {mode : Int} {n : Nat} (hn : n ≤ 8) {l : List Act} (hl : actsE l = 0) : ∀ i (hi : i < (ranM mode n l).e.w.rows.length), ∃ x ∈ (ranM mode n l).deeds, x.a.kind = 1 ∧ (x.r = ⟨10, (ranM mode n l).e.w.rows[i].1, (ranM mode n l).e.w.rows[i].2⟩ ∨ x.r.k = 8) := by
 have ha := pool_house hn mode hl
 have hk : ∀ (ds : List Deed) (rows : PL), ds = ((Mach.start houseStart n).run houseO mode l).deeds → rows = ((Mach.start houseStart n).run houseO mode l).e.rows → ∀ i (hi : i < rows.length), ∃ x ∈ ds, x.a.kind = 1 ∧ (x.r = ⟨10, rows[i].1, rows[i].2⟩ ∨ x.r.k = 8) := fun ds rows e1 e2 => by
  subst e1 e2
  exact fun i hi => (row_run (mode := mode) (n := n) hl).rows _ (List.getElem_mem hi)
 exact hk _ _ ha.deeds ha.rows
set_option maxHeartbeats 4000000 in
theorem walk_TopCommitted (v : Value) (l : List Raw) (mode srv : Int) (w : World) (hl : RLst w w.heap.size v l) (hm : (Lit.int .i64 mode).wf = true) (hs : (Lit.int .i64 srv).wf = true) (hT : Tabs w w.heap.size) :
  Calls Tryz.prog 7 #[v, .int .i64 mode, .int .i64 srv] w fun e w' => e = .returned (.bool true) ∧ Below w.heap.size w w' := by
 have hpp := top_committed_pool (mode := 1 + pickI mode 3) (n := (1 + pickI srv 4).toNat) (by have := pickI_bd srv (m := 4) (by omega); omega) (actsR_E (l := l) (most := 60) (n := 5) (by omega) (by omega))
 have hmb := i64_bd hm
 have hsb := i64_bd hs
 have hae := actsR_E (l := l) (most := 60) (n := 5) (by omega) (by omega)
 have hE := run_E (setupR_E mode srv) (Nat.le_trans (actsR_len (l := l) (most := 60) (n := 5)) (by omega)) hae
 have hq := pickI_bd srv (m := 4) (by omega)
 have HS := jD (setup_any mode srv w hmb.1 hmb.2 hsb.1 hsb.2)
 have HT := jD hT
 have HA := jD (fun (wc : World) (h : Below w.heap.size w wc) => acts_any v l 60 5 wc (hl.step h) (hT.below h).wo (by omega) (by omega) (by omega))
 have HAL := jD (fun (out : Value) (wa wc : World) (h : ActsAt wa wc out (actsR l 60 5)) => h.alst (Nat.le_trans actsR_len (by omega)) (actsR_size (n := 5)))
 have HP := jD (fun (out : Value) (wc : World) (h : ALst wc wc.heap.size out (actsR l 60 5)) (hb : Below w.heap.size w wc) => playedT_any (1 + pickI mode 3) (1 + pickI srv 4) out _ wc h ((hT.below hb).up hb.size) hE)
 obtain ⟨E, e, rfl, he⟩ := hl.form
 generalize ranM (1 + pickI mode 3) (1 + pickI srv 4).toNat (actsR l 60 5) = m at *
 have HPP := jD hpp
 generalize actsR l 60 5 = al at *
 generalize 1 + pickI mode 3 = md at *
 generalize 1 + pickI srv 4 = sv at *
 clear hmb hsb hae hE hq hpp hl hm hs hT
 go_enter Tryz.func7, Tryz.ntmps7
 go_wp2_with fail
 refine HS.out.mono ?_
 rintro e1 w1 ⟨rfl, hb1⟩
 go_wp2_with fail
 refine (HA.out _ hb1).mono ?_
 rintro e2 w2 ⟨out, rfl, hact⟩
 have ha := HAL.out _ _ _ hact
 have HB2 := jD (bel_trans hb1 hact.bel)
 obtain ⟨A0, c0, rfl, _⟩ := ha.form
 go_wp2_with fail
 refine (HP.out _ _ ha HB2.out).mono ?_
 rintro e3 w3 ⟨v1, v2, v3, rfl, ho, hb3⟩
 obtain ⟨A1, c1, rfl, _⟩ := ho.s.form
 obtain ⟨A2, c2, rfl, _⟩ := ho.d.form
 obtain ⟨A3, c3, rfl, _⟩ := ho.r.form
 have hsm := ho.d.small
 have hrs := ho.r.bytes
 have HO := jD (OutAt.new ho (bel_trans HB2.out hb3))
 clear ho hb3 ha hact hb1 HS HA HP HAL HB2
 obtain ⟨o0, o1, o2⟩ := cells3 HO.out.o
 have hol := HO.out.o.lt
 go_wp2_with fail
 clear o0 o1 o2 hol
 go_loopw [23] (fun j wr => ∃ k : Nat, k ≤ m.e.w.rows.length ∧ j = .int .i64 k ∧ Hid (OutAt w wr w3.heap.size w3.heap.size (.slice A1 m.sent.length c1) (.slice A2 m.deeds.length c2) (.slice A3 m.e.w.rows.length c3) m.sent m.deeds m.e.w.rows)) (fun j _ => m.e.w.rows.length - (intOf j).toNat)
 case atStart => exact ⟨0, by omega, rfl, HO.out⟩
 case round =>
  obtain ⟨k, hk, rfl, HR⟩ := hrel
  clear HO
  by_cases hlt : k < m.e.w.rows.length
  ·have HLT := jD hlt
   obtain ⟨b, off, rfl, hb, l0, l1⟩ := HR.out.r.pt hlt
   have HX := jD (HPP.out k hlt)
   generalize m.e.w.rows[k] = x at *
   have nd := (Below.refl wr.heap.size wr).alloc (nL _) (.cells #[.string x.1, .string x.2] 56)
   have hO := HR.out.below nd
   have xd := RowTo.whole wr #[.string x.1, .string x.2] 56
   have HO := jD hO
   obtain ⟨o0, o1, o2⟩ := cells3 hO.o
   have hol := hO.o.lt
   have HC := jD (containsDC (.pointer (some ⟨wr.heap.size, 0, none⟩)) (fun y => y.a.kind = 1 ∧ (y.r = ⟨10, x.1, x.2⟩ ∨ y.r.k = 8)) _ m.deeds _ w3.heap.size hO.d hO.bb HX.out (fun y hy wc hwc => comm_any x y wr.heap.size wc (xd.below hwc xd.lt)))
   clear hO xd nd HX
   go_wp2_with fail
   refine HC.out.mono ?_
   rintro e5 w5 ⟨rfl, hb5⟩
   have HO5 := jD (HO.out.below hb5)
   clear hb5 HC
   go_wp2
   go_roundw
   case rel => exact ⟨k + 1, Nat.succ_le_of_lt HLT.out, by go_num, HO5.out⟩
   case measure => have := HLT.out; simp [intOf]; omega
  ·go_wp2
   go_ret
   exact ⟨rfl, HR.out.bel⟩
end Go.Proofs.YtpbaobmegomfpacGreatDoor
