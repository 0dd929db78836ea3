/-
  Texts of the proof, one behind the other: WTopGone.
-/
import Derived.Test.YtpbaobmegomfpacGreatDoorTTopGone1
import Derived.Test.YtpbaobmegomfpacGreatDoorTTopGone2
set_option linter.unusedVariables false
set_option linter.unusedSimpArgs false
set_option maxRecDepth 100000
open List renaming getElem_toArray → gTA, getElem_cons_zero → gCZ, getElem_cons_succ → gCS, setIfInBounds_toArray → sTA, set_cons_zero → sCZ, set_cons_succ → sCS
open Go.Lib renaming hid → jD
open Nat renaming le_refl → nL
namespace Go.Proofs.YtpbaobmegomfpacGreatDoor
open Go.RowKit
theorem topGone.laidFacts {W : World} (h : laidMetH Tryz.prog Rows.topGoneRow.laid W) : Tabs W W.heap.size :=
 tabs_of (words_of h (by simp [Rows.topGoneRow, Rows.laid_tillerman_say_words, List.range, List.range.loop, wordL])) (leads_of h (by simp [Rows.topGoneRow, Rows.laid_tillerman_say_leads, List.range, List.range.loop, leadL]))
structure GoneAt (w wr : World) (u : Nat) (md sv : Int) (va : Value) (al : List Act) : Prop where
 r : RowTo wr u 31 2 [.int .i64 md, .int .i64 sv]
 s : ∃ g, Sl wr 45 3 va g al.length (al.map actV).flatten
 bel : Below w.heap.size w wr
theorem GoneAt.below {w wr w' : World} {u : Nat} {md sv : Int} {va : Value} {al : List Act} (h : GoneAt w wr u md sv va al) (hb : Below wr.heap.size wr w') : GoneAt w w' u md sv va al :=
 ⟨h.r.below hb h.r.lt, h.s.imp fun g hg => hg.below hb, bel_add' h.bel hb h.bel.size⟩
theorem sl_one {w : World} {g : Nat} {a b c : Value} (h : RowTo w g 45 3 [a, b, c]) : Sl w 45 3 (.slice (some ⟨g, 0, none⟩) 1 1) (some g) 1 [a, b, c] := by
 refine ⟨rfl, .inr ⟨g, 0, 1, 3, rfl, rfl, nL _, h.front 0, .inr rfl, fun j hj => ?_⟩⟩
 rw [Nat.zero_add]
 exact h.cell hj
theorem catAt3 {w : World} {g t : Nat} {v1 v2 v3 : Value} {l1 l2 l3 : List Act} (h : RowTo w g t 3 [v1, v2, v3]) (h1 : ∃ q, Sl w 45 3 v1 q l1.length (l1.map actV).flatten) (h2 : ∃ q, Sl w 45 3 v2 q l2.length (l2.map actV).flatten) (h3 : ∃ q, Sl w 45 3 v3 q l3.length (l3.map actV).flatten) : CatAt w g [(v1, l1), (v2, l2), (v3, l3)] :=
 ⟨h.lt, fun i hi => match i, hi with
  | 0, _ => ⟨h.cell (j := 0) (by simp), h1⟩
  | 1, _ => ⟨h.cell (j := 1) (by simp), h2⟩
  | 2, _ => ⟨h.cell (j := 2) (by simp), h3⟩⟩
theorem catAt2 {w : World} {g t : Nat} {v1 v2 : Value} {l1 l2 : List Act} (h : RowTo w g t 2 [v1, v2]) (h1 : ∃ q, Sl w 45 3 v1 q l1.length (l1.map actV).flatten) (h2 : ∃ q, Sl w 45 3 v2 q l2.length (l2.map actV).flatten) : CatAt w g [(v1, l1), (v2, l2)] :=
 ⟨h.lt, fun i hi => match i, hi with
  | 0, _ => ⟨h.cell (j := 0) (by simp), h1⟩
  | 1, _ => ⟨h.cell (j := 1) (by simp), h2⟩⟩
theorem closes_len (n : Nat) : (closes n).length = n := by simp [closes]
theorem closes_data {n : Nat} : ∀ a ∈ closes n, a.data.size ≤ 1000 := fun a ha => by
 obtain ⟨i, _, rfl⟩ := List.mem_map.1 ha
 show (0 : Nat) ≤ 1000; omega
set_option maxHeartbeats 4000000 in
theorem walk_TopGone (v : Value) (l : List Raw) (mode srv c0 : Int) (w : World) (hl : RLst w w.heap.size v l) (hm : (Lit.int .i64 mode).wf = true) (hs : (Lit.int .i64 srv).wf = true) (hc : (Lit.int .i64 c0).wf = true) (hT : Tabs w w.heap.size) :
  Calls Tryz.prog 8 #[v, .int .i64 mode, .int .i64 srv, .int .i64 c0] w fun e w' => e = .returned (.bool true) ∧ Below w.heap.size w w' := by
 have hmb := i64_bd hm
 have hsb := i64_bd hs
 have hcb := i64_bd hc
 have hae := actsR_E (l := l) (most := 40) (n := 5) (by omega) (by omega)
 have hl1 := actsR_len (l := l) (most := 40) (n := 5)
 have hu := setupR_E mode srv
 have hsr := pickI_bd srv (m := 4) (by omega)
 obtain ⟨p, hp, hp5⟩ := pick_some c0 5 (by omega)
 have hp6 : p < 6 := by omega
 have hcl := closes_len 6
 have hE1 := run_E hu (show ((actsR l 40 5 ++ closes 6) ++ ([⟨1, (p : Int), msg 81 tGetA ++ msg 81 tExeA⟩] : List Act)).length ≤ 300 by rw [List.length_append, List.length_append, hcl]; simp; omega) (gone_E hae hp6)
 have hE2 := run_E hu (show (actsR l 40 5 ++ closes 6).length ≤ 300 by rw [List.length_append, hcl]; omega) (actsE_app.2 ⟨hae, closes_E (nL 6)⟩)
 have hpp := gone_pool (mode := 1 + pickI mode 3) (n := (1 + pickI srv 4).toNat) (by omega) (by omega) hae hp6
 have HS6 := jD (ran_sent (l := (actsR l 40 5 ++ closes 6) ++ [⟨1, (p : Int), msg 81 tGetA ++ msg 81 tExeA⟩]) (1 + pickI mode 3) (n := (1 + pickI srv 4).toNat) (by omega) (gone_E hae hp6))
 have HS7 := jD (ran_sent (l := actsR l 40 5 ++ closes 6) (1 + pickI mode 3) (n := (1 + pickI srv 4).toNat) (by omega) (actsE_app.2 ⟨hae, closes_E (nL 6)⟩))
 have hse := setup_any mode srv
 have HS := jD (fun wc => hse wc hmb.1 hmb.2 hsb.1 hsb.2)
 have HA1 := jD (fun (wc : World) (hb : Below w.heap.size w wc) => acts_any v l 40 5 wc (hl.step hb) (hT.below hb).wo (by omega) (by omega) (by omega))
 have HPI := jD (fun wc => pickedW_any c0 5 wc hcb.1 hcb.2 (by omega) (by omega))
 rw [show (5 : Int) = ((5 : Nat) : Int) from rfl, hp] at HPI
 have HK1 := jD (fun (wc : World) => pack_any 81 tGetA wc (by decide))
 have HK2 := jD (fun (wc : World) => pack_any 81 tExeA wc (by decide))
 have HP1 := jD (fun (out : Value) (wc : World) (h : ALst wc wc.heap.size out ((actsR l 40 5 ++ closes 6) ++ [⟨1, (p : Int), msg 81 tGetA ++ msg 81 tExeA⟩])) (hb : Below w.heap.size w wc) => playedT_any (1 + pickI mode 3) (1 + pickI srv 4) out _ wc h ((hT.below hb).up hb.size) hE1)
 have HP2 := jD (fun (out : Value) (wc : World) (h : ALst wc wc.heap.size out (actsR l 40 5 ++ closes 6)) (hb : Below w.heap.size w wc) => playedT_any (1 + pickI mode 3) (1 + pickI srv 4) out _ wc h ((hT.below hb).up hb.size) hE2)
 have HZ1 := jD (actsR_size (l := l) (most := 40) (n := 5))
 obtain ⟨E, e, rfl, he⟩ := hl.form
 have HPP := jD hpp
 have HSZ := jD (show (msg 81 tGetA).size + (msg 81 tExeA).size ≤ 100 by decide)
 unfold tGetA tExeA at *
 generalize msg 81 ⟨#[103, 101, 116, 32, 97]⟩ = gq at *
 generalize msg 81 ⟨#[101, 120, 101, 99, 32, 97]⟩ = xq at *
 generalize ranM (1 + pickI mode 3) (1 + pickI srv 4).toNat ((actsR l 40 5 ++ closes 6) ++ [⟨1, (p : Int), gq ++ xq⟩]) = m1 at *
 generalize ranM (1 + pickI mode 3) (1 + pickI srv 4).toNat (actsR l 40 5 ++ closes 6) = m2 at *
 have HL1 := jD hl1
 generalize actsR l 40 5 = al at *
 generalize 1 + pickI mode 3 = md at *
 generalize 1 + pickI srv 4 = sv at *
 have hpI : (p : Int) < 6 := by omega
 clear hmb hsb hcb hae hl1 hu hsr hE1 hE2 hpp hse hl hm hs hc hT hp hcl
 go_enter Tryz.func8, Tryz.ntmps8
 go_wp2_with fail
 refine (HS.out _).mono ?_
 rintro e0 w0 ⟨rfl, hb0⟩
 have n0 := (Below.refl w0.heap.size w0).alloc (nL _) (.cells #[.int .i64 md, .int .i64 sv] 31)
 have HB0 := jD (bel_add' hb0 n0 hb0.size)
 have HX0 := jD (RowTo.whole w0 #[.int .i64 md, .int .i64 sv] 31)
 clear hb0 n0 HS
 go_wp2_with fail
 refine (HA1.out _ HB0.out).mono ?_
 rintro e1 w1 ⟨out, rfl, hA⟩
 have HG1 := jD (show GoneAt w w1 w0.heap.size md sv out al from ⟨HX0.out.below hA.bel HX0.out.lt, by obtain ⟨g, h1, _⟩ := hA.sl; exact ⟨g, h1⟩, bel_add' HB0.out hA.bel HB0.out.size⟩)
 obtain ⟨A0, a0, rfl, _⟩ : ∃ A c, out = .slice A al.length c ∧ al.length ≤ c := by obtain ⟨g, h⟩ := HG1.out.s; exact h.shape
 clear hA HB0 HX0 HA1
 go_wp2_with fail
 refine (HPI.out _).mono ?_
 rintro e2 w2 ⟨rfl, rfl⟩
 clear HPI
 go_wp2_with fail
 refine (HK1.out _).mono ?_
 rintro e2 w2 ⟨rfl, hb2⟩
 have HG2 := jD (HG1.out.below hb2)
 clear HG1 hb2 HK1
 go_wp2_with fail
 refine (HK2.out _).mono ?_
 rintro e3 w3 ⟨rfl, hb3⟩
 have HG3 := jD (HG2.out.below hb3)
 clear HG2 hb3 HK2
 go_wp2_with fail
 go_loopw [16, 37] (fun o j wr => ∃ k : Nat, k ≤ 6 ∧ j = .int .i64 k ∧ Hid (OwnA w3 wr o (closes k) ∧ Below w3.heap.size w3 wr)) (fun _ j _ => 6 - (intOf j).toNat)
 case atStart => exact ⟨0, by omega, rfl, OwnA.nil _ _, Below.refl _ _⟩
 case round =>
  obtain ⟨k, hk, rfl, HZ⟩ := hrel
  by_cases hlt : k < 6
  ·have nb := (Below.refl wr.heap.size wr).alloc (nL _) (.cells #[.int .i64 2, .int .i64 k, .string ⟨#[]⟩] 45)
   obtain ⟨go, hso, hgo⟩ := HZ.out.1.below nb
   have h1 := sl_one (RowTo.whole wr #[.int .i64 2, .int .i64 k, .string ⟨#[]⟩] 45)
   obtain ⟨v', w', g', hrun, hs', hgr, hg'⟩ := app_acts (bl := [⟨2, (k : Int), ⟨#[]⟩⟩]) hso h1 (by rw [closes_len]; omega) (by simp)
   have HN := jD (show OwnA w3 w' v' (closes (k + 1)) ∧ Below w3.heap.size w3 w' by
    rw [closes_succ]
    have hb1 := bel_add' HZ.out.2 nb HZ.out.2.size
    exact ⟨⟨g', hs', fun b hb => (hg' b hb).elim (fun h => hgo b h) (fun h => Nat.le_trans hb1.size h)⟩, hb1.grown hgr hb1.size hgo⟩)
   obtain ⟨Ao, ao, hvo, _⟩ := hso.shape
   rw [hvo] at hrun
   rw [hvo]
   clear hso hgo h1 hs' hgr hg' nb hvo HZ
   go_wp2_with (at_builtin; refine Lib.wpList_append_run _ rfl _ _ _ _ rfl _ _ rfl rfl _ _ hrun ?_)
   go_roundw
   case rel => exact ⟨k + 1, by omega, by go_num, HN.out⟩
   case measure => simp [intOf]; omega
  ·obtain rfl : k = 6 := by omega
   have HGW := jD (HG3.out.below HZ.out.2)
   obtain ⟨qa, hqa, _⟩ := HZ.out.1
   obtain ⟨Aa, ca, rfl, _⟩ := hqa.shape
   have HQA := jD (show ∃ q, Sl wr 45 3 (.slice Aa (closes 6).length ca) q (closes 6).length ((closes 6).map actV).flatten from ⟨qa, hqa⟩)
   have HCL := jD (closes_len 6)
   have HCD := jD (closes_data (n := 6))
   clear hqa HZ HG3 hlt hk
   generalize closes 6 = cl at *
   obtain ⟨x0, x1⟩ := cells2 HGW.out.r
   have hxl := HGW.out.r.lt
   have hsum := fun W => run_string_add_sum (P := Tryz.prog) W gq xq (by have := HSZ.out; omega)
   go_wp2_with fail
   refine wp_free 17 [14] [] [] [(0, 47), (1, 48), (2, 49), (3, 50), (4, 51), (5, 52), (6, 53), (7, 54), (8, 55), (9, 56), (10, 57), (11, 58), (12, 46), (13, 59), (14, 60), (15, 18)] [[], [], [], [], [], [], [(4, 51), (5, 52)], [(3, 50), (6, 53)], [(7, 54)], [(1, 48), (2, 49), (8, 55)], [(9, 56)], [(0, 47), (10, 57)], [(11, 58)], [(12, 46)], [(12, 46)], []] (fun i v w => match i with | 0 => v = .agg #[.int .i64 md, .int .i64 sv] | 1 => v = .slice A0 al.length a0 | 2 => v = .slice Aa cl.length ca | 3 => v = .int .i64 p | 4 => v = .string gq | 5 => v = .string xq | 6 => v = .string (gq ++ xq) | 7 => v = .agg #[.int .i64 1, .int .i64 p, .string (gq ++ xq)] | 8 => ∃ g, v = .slice (some ⟨g, 0, none⟩) 1 1 ∧ RowTo w g 45 3 [.int .i64 1, .int .i64 p, .string (gq ++ xq)] | 9 => ∃ g x, v = .slice (some ⟨g, 0, none⟩) 3 3 ∧ CatAt w g [(.slice A0 al.length a0, al), (.slice Aa cl.length ca, cl), (x, [⟨1, (p : Int), gq ++ xq⟩])] | 10 => ALst w w.heap.size v ((al ++ cl) ++ [⟨1, (p : Int), gq ++ xq⟩]) | 11 => ∃ v1 v2 v3, v = .tuple #[.agg #[v1, v2, v3], .bool true] ∧ OutV w v1 v2 v3 m1.sent m1.deeds m1.e.w.rows | 12 => ∃ v1 v2 v3, v = .tuple #[.agg #[v1, v2, v3], .bool true] ∧ OutV w v1 v2 v3 m1.sent m1.deeds m1.e.w.rows | 13 => ∃ v1 v2 v3, v = .agg #[v1, v2, v3] ∧ OutV w v1 v2 v3 m1.sent m1.deeds m1.e.w.rows | 14 => v = .bool true | 15 => ∃ b, v = .pointer (some ⟨b, 0, none⟩) ∧ wr.heap.size ≤ b ∧ RowTo w b 27 3 [.slice none 0 0, .slice none 0 0, .slice none 0 0] | _ => True) (fun _ w w' => Below w.heap.size w w') (fun wc => Below wr.heap.size wr wc) 2 (by kernel_rfl) (by rfl) (by kernel_rfl) (fun _ _ _ _ _ h => h) (Below.refl _ _).drew (fun _ _ => Below.refl _ _) ?amo (fun k w w' h hb => bel_trans h hb) ?aob ?aof ?afi
   case amo =>
    intro k i v w w' hk1 hk2 hk3 h hb
    rcases i with _ | _ | _ | _ | _ | _ | _ | _ | _ | _ | _ | _ | _ | _ | _ | _ | i
    ·exact h
    ·exact h
    ·exact h
    ·exact h
    ·exact h
    ·exact h
    ·exact h
    ·exact h
    ·obtain ⟨g, e, hr⟩ := h; exact ⟨g, e, hr.below hb hr.lt⟩
    ·obtain ⟨g, x, e, hr⟩ := h; exact ⟨g, x, e, hr.below hb⟩
    ·exact h.step hb
    ·obtain ⟨v1, v2, v3, e, ho⟩ := h; exact ⟨v1, v2, v3, e, ho.step hb⟩
    ·obtain ⟨v1, v2, v3, e, ho⟩ := h; exact ⟨v1, v2, v3, e, ho.step hb⟩
    ·obtain ⟨v1, v2, v3, e, ho⟩ := h; exact ⟨v1, v2, v3, e, ho.step hb⟩
    ·exact h
    ·obtain ⟨b, e, hlo, hr⟩ := h; exact ⟨b, e, hlo, hr.below hb hr.lt⟩
    ·exact h
   case aob =>
    intro i hi hnf vals wc hR hV
    rcases i with _ | _ | _ | _ | _ | _ | _ | _ | _ | _ | _ | _ | _ | _ | _ | _ | i
    ·clear hV hnf hi
     have q0 := (hR.cell (p := ⟨w0.heap.size, 0, none⟩) hxl).trans x0
     have q1 := (hR.cell (p := ⟨w0.heap.size, 1, none⟩) hxl).trans x1
     refine ⟨_, rfl, Or.inl ⟨by rfl, Or.inl ⟨.agg #[.int .i64 md, .int .i64 sv], wc, ?_, rfl, (Below.refl _ _)⟩⟩⟩
     (try simp only [putF, List.getD_cons_succ, List.getD_cons_zero, Go.Act.put, sTA, sCZ, sCS])
     go_simp
     try rfl
    ·clear hV hnf hi
     refine ⟨_, rfl, Or.inl ⟨by rfl, Or.inl ⟨.slice A0 al.length a0, wc, ?_, rfl, (Below.refl _ _)⟩⟩⟩
     (try simp only [putF, List.getD_cons_succ, List.getD_cons_zero, Go.Act.put, sTA, sCZ, sCS])
     go_simp
     try rfl
    ·clear hV hnf hi
     refine ⟨_, rfl, Or.inl ⟨by rfl, Or.inl ⟨.slice Aa cl.length ca, wc, ?_, rfl, (Below.refl _ _)⟩⟩⟩
     (try simp only [putF, List.getD_cons_succ, List.getD_cons_zero, Go.Act.put, sTA, sCZ, sCS])
     go_simp
     try rfl
    ·clear hV hnf hi
     refine ⟨_, rfl, Or.inl ⟨by rfl, Or.inl ⟨.int .i64 p, wc, ?_, rfl, (Below.refl _ _)⟩⟩⟩
     (try simp only [putF, List.getD_cons_succ, List.getD_cons_zero, Go.Act.put, sTA, sCZ, sCS])
     go_simp
     try rfl
    ·clear hV hnf hi
     refine ⟨_, rfl, Or.inl ⟨by rfl, Or.inl ⟨.string gq, wc, ?_, rfl, (Below.refl _ _)⟩⟩⟩
     (try simp only [putF, List.getD_cons_succ, List.getD_cons_zero, Go.Act.put, sTA, sCZ, sCS])
     go_simp
     try rfl
    ·clear hV hnf hi
     refine ⟨_, rfl, Or.inl ⟨by rfl, Or.inl ⟨.string xq, wc, ?_, rfl, (Below.refl _ _)⟩⟩⟩
     (try simp only [putF, List.getD_cons_succ, List.getD_cons_zero, Go.Act.put, sTA, sCZ, sCS])
     go_simp
     try rfl
    ·have h4 : (vals 4) = .string gq := hV (4, 51) (by decide)
     have h5 : (vals 5) = .string xq := hV (5, 52) (by decide)
     clear hV hnf hi
     refine ⟨_, rfl, Or.inl ⟨by rfl, Or.inl ⟨.string (gq ++ xq), wc, ?_, rfl, (Below.refl _ _)⟩⟩⟩
     (try simp only [putF, List.getD_cons_succ, List.getD_cons_zero, Go.Act.put, sTA, sCZ, sCS, h4, h5])
     go_simp
     try rfl
    ·have h3 : (vals 3) = .int .i64 p := hV (3, 50) (by decide)
     have h6 : (vals 6) = .string (gq ++ xq) := hV (6, 53) (by decide)
     clear hV hnf hi
     refine ⟨_, rfl, Or.inl ⟨by rfl, Or.inl ⟨.agg #[.int .i64 1, .int .i64 p, .string (gq ++ xq)], wc, ?_, rfl, (Below.refl _ _)⟩⟩⟩
     (try simp only [putF, List.getD_cons_succ, List.getD_cons_zero, Go.Act.put, sTA, sCZ, sCS, h3, h6])
     go_simp
     try rfl
    ·have h7 : (vals 7) = .agg #[.int .i64 1, .int .i64 p, .string (gq ++ xq)] := hV (7, 54) (by decide)
     clear hV hnf hi
     refine ⟨_, rfl, Or.inl ⟨by rfl, Or.inl ⟨.slice (some ⟨wc.heap.size, 0, none⟩) 1 1, (wc.alloc (.cells #[.int .i64 1, .int .i64 p, .string (gq ++ xq)] 45)), ?_, ⟨_, rfl, RowTo.whole wc _ _⟩, ((Below.refl _ _).alloc (nL _) _)⟩⟩⟩
     (try simp only [putF, List.getD_cons_succ, List.getD_cons_zero, Go.Act.put, sTA, sCZ, sCS, h7])
     go_simp
     try rfl
    ·have h1 : (vals 1) = .slice A0 al.length a0 := hV (1, 48) (by decide)
     have h2 : (vals 2) = .slice Aa cl.length ca := hV (2, 49) (by decide)
     have h8 : ∃ g, (vals 8) = .slice (some ⟨g, 0, none⟩) 1 1 ∧ RowTo wc g 45 3 [.int .i64 1, .int .i64 p, .string (gq ++ xq)] := hV (8, 55) (by decide)
     clear hV hnf hi
     obtain ⟨g, e8, hr8⟩ := h8
     refine ⟨_, rfl, Or.inl ⟨by rfl, Or.inl ⟨.slice (some ⟨wc.heap.size, 0, none⟩) 3 3, (wc.alloc (.cells #[.slice A0 al.length a0, .slice Aa cl.length ca, .slice (some ⟨g, 0, none⟩) 1 1] 33)), ?_, ⟨_, _, rfl, catAt3 (RowTo.whole wc _ _) (HGW.out.s.imp fun q hq => (hq.below hR).below ((Below.refl _ _).alloc (nL _) _)) (HQA.out.imp fun q hq => (hq.below hR).below ((Below.refl _ _).alloc (nL _) _)) ⟨_, sl_one (hr8.below ((Below.refl _ _).alloc (nL _) _) hr8.lt)⟩⟩, ((Below.refl _ _).alloc (nL _) _)⟩⟩⟩
     (try simp only [putF, List.getD_cons_succ, List.getD_cons_zero, Go.Act.put, sTA, sCZ, sCS, h1, h2, e8])
     go_simp
     try rfl
    ·have h9 : ∃ g x, (vals 9) = .slice (some ⟨g, 0, none⟩) 3 3 ∧ CatAt wc g [(.slice A0 al.length a0, al), (.slice Aa cl.length ca, cl), (x, [⟨1, (p : Int), gq ++ xq⟩])] := hV (9, 56) (by decide)
     clear hV hnf hi
     obtain ⟨g, x, e9, hcat⟩ := h9
     refine ⟨_, rfl, Or.inl ⟨by rfl, Or.inr ⟨24, #[.slice (some ⟨g, 0, none⟩) 3 3], ?_, ?_⟩⟩⟩
     ·(try simp only [putF, List.getD_cons_succ, List.getD_cons_zero, Go.Act.put, sTA, sCZ, sCS, e9])
      go_simp
      try rfl
     ·refine (concA_any g 3 _ wc hcat (fun y hy => ?_) (by simp)).mono ?_
      ·simp only [List.mem_cons, List.not_mem_nil, or_false] at hy
       rcases hy with rfl | rfl | rfl
       ·exact Nat.le_trans HL1.out (by omega)
       ·show cl.length ≤ 50; rw [HCL.out]; omega
       ·show 1 ≤ 50; omega
      ·rintro e w' ⟨u, rfl, ⟨g', hs', _⟩, hb⟩
       refine ⟨u, rfl, ?_, hb⟩
       have e : ([(.slice A0 al.length a0, al), (.slice Aa cl.length ca, cl), (x, [⟨1, (p : Int), gq ++ xq⟩])] : List (Value × List Act)).flatMap (·.2) = (al ++ cl) ++ [⟨1, (p : Int), gq ++ xq⟩] := by simp
       rw [e] at hs'
       refine hs'.alst (by have := HL1.out; have := HCL.out; simp; omega) (fun a ha => ?_)
       have hd : a.data.size ≤ 1000 := by
        rcases List.mem_append.1 ha with ha | ha
        ·rcases List.mem_append.1 ha with ha | ha
         ·exact HZ1.out a ha
         ·exact HCD.out a ha
        ·rw [List.mem_singleton.1 ha]; show (gq ++ xq).size ≤ 1000; rw [ByteArray.size_append]; have := HSZ.out; omega
       omega
    ·have h0 : (vals 0) = .agg #[.int .i64 md, .int .i64 sv] := hV (0, 47) (by decide)
     have h10 : ALst wc wc.heap.size (vals 10) ((al ++ cl) ++ [⟨1, (p : Int), gq ++ xq⟩]) := hV (10, 57) (by decide)
     clear hV hnf hi
     refine ⟨_, rfl, Or.inl ⟨by rfl, Or.inr ⟨11, #[.agg #[.int .i64 md, .int .i64 sv], vals 10], ?_, ?_⟩⟩⟩
     ·(try simp only [putF, List.getD_cons_succ, List.getD_cons_zero, Go.Act.put, sTA, sCZ, sCS, h0])
      go_simp
      try rfl
     ·refine (HP1.out _ wc h10 (bel_add' HGW.out.bel hR HGW.out.bel.size)).mono ?_
      rintro e w' ⟨v1, v2, v3, rfl, ho, hb⟩
      exact ⟨_, rfl, ⟨v1, v2, v3, rfl, ho⟩, hb⟩
    ·have h11 : ∃ v1 v2 v3, (vals 11) = .tuple #[.agg #[v1, v2, v3], .bool true] ∧ OutV wc v1 v2 v3 m1.sent m1.deeds m1.e.w.rows := hV (11, 58) (by decide)
     clear hV hnf hi
     refine ⟨_, rfl, Or.inl ⟨by rfl, Or.inl ⟨(vals 11), wc, ?_, h11, (Below.refl _ _)⟩⟩⟩
     (try simp only [putF, List.getD_cons_succ, List.getD_cons_zero, Go.Act.put, sTA, sCZ, sCS])
     go_simp
     try rfl
    ·have h12 : ∃ v1 v2 v3, (vals 12) = .tuple #[.agg #[v1, v2, v3], .bool true] ∧ OutV wc v1 v2 v3 m1.sent m1.deeds m1.e.w.rows := hV (12, 46) (by decide)
     clear hV hnf hi
     obtain ⟨v1, v2, v3, e7, ho⟩ := h12
     refine ⟨_, rfl, Or.inl ⟨by rfl, Or.inl ⟨.agg #[v1, v2, v3], wc, ?_, ⟨v1, v2, v3, rfl, ho⟩, (Below.refl _ _)⟩⟩⟩
     (try simp only [putF, List.getD_cons_succ, List.getD_cons_zero, Go.Act.put, sTA, sCZ, sCS, e7])
     go_simp
     try rfl
    ·exact absurd (by decide) hnf
    ·clear hV hnf hi
     refine ⟨_, rfl, Or.inl ⟨by rfl, Or.inl ⟨.pointer (some ⟨wc.heap.size, 0, none⟩), (wc.alloc (.cells #[.slice none 0 0, .slice none 0 0, .slice none 0 0] 27)), ?_, ⟨_, rfl, hR.size, RowTo.whole wc _ _⟩, ((Below.refl _ _).alloc (nL _) _)⟩⟩⟩
     (try simp only [putF, List.getD_cons_succ, List.getD_cons_zero, Go.Act.put, sTA, sCZ, sCS])
     go_simp
     try rfl
    ·exact absurd hi (by simp)
   case aof =>
    intro i hi vals wc hR hV
    obtain rfl := List.mem_singleton.1 hi
    ·have h12 : ∃ v1 v2 v3, (vals 12) = .tuple #[.agg #[v1, v2, v3], .bool true] ∧ OutV wc v1 v2 v3 m1.sent m1.deeds m1.e.w.rows := hV (12, 46) (by decide)
     clear hV hi
     obtain ⟨v1, v2, v3, e7, ho⟩ := h12
     refine ⟨_, .bool true, rfl, by rfl, fun w' => ?_, rfl⟩
     (try simp only [putF, List.getD_cons_succ, List.getD_cons_zero, Go.Act.put, sTA, sCZ, sCS, e7])
     go_simp
     try rfl
   case afi =>
    intro vals wf hR hV
    have hS := True.intro
    have f13 : ∃ v1 v2 v3, (vals 13) = .agg #[v1, v2, v3] ∧ OutV wf v1 v2 v3 m1.sent m1.deeds m1.e.w.rows := hV 13 (by decide) (fun k hk => by simp at hk)
    have f14 : (vals 14) = .bool true := hV 14 (by decide) (fun k hk => by simp at hk)
    have f15 : ∃ b, (vals 15) = .pointer (some ⟨b, 0, none⟩) ∧ wr.heap.size ≤ b ∧ RowTo wf b 27 3 [.slice none 0 0, .slice none 0 0, .slice none 0 0] := hV 15 (by decide) (fun k hk => by simp at hk)
    clear hV
    obtain ⟨v1, v2, v3, eo, hO⟩ := f13
    obtain ⟨bO, ep, hlo, hY0⟩ := f15
    obtain ⟨B1, b1, rfl, _⟩ := hO.s.form
    obtain ⟨B2, b2, rfl, _⟩ := hO.d.form
    obtain ⟨B3, b3, rfl, _⟩ := hO.r.form
    (try simp only [putF, List.getD_cons_succ, List.getD_cons_zero, Go.Act.put, sTA, sCZ, sCS, eo, ep, f14])
    obtain ⟨r0, r1, r2⟩ := cells3 hY0
    have g0 := hY0.frozen 0
    have g1 := hY0.frozen 1
    have g2 := hY0.frozen 2
    clear x0 x1 hxl
    have hk8 : ∀ b', b' ≠ bO → (((wf.setCell ⟨bO, 0, none⟩ (.slice B1 m1.sent.length b1)).setCell ⟨bO, 1, none⟩ (.slice B2 m1.deeds.length b2)).setCell ⟨bO, 2, none⟩ (.slice B3 m1.e.w.rows.length b3)).heap[b']? = wf.heap[b']? := fun b' hb => by rw [Below.heap_setCell _ _ _ _ hb, Below.heap_setCell _ _ _ _ hb, Below.heap_setCell _ _ _ _ hb]
    have hz8 : (((wf.setCell ⟨bO, 0, none⟩ (.slice B1 m1.sent.length b1)).setCell ⟨bO, 1, none⟩ (.slice B2 m1.deeds.length b2)).setCell ⟨bO, 2, none⟩ (.slice B3 m1.e.w.rows.length b3)).heap.size = wf.heap.size := by simp [World.setCell]
    have HO8 := jD (hO.off (slOnly3 hY0) hz8 hk8)
    have HY8 := jD (hY0.set3 (.slice B1 m1.sent.length b1) (.slice B2 m1.deeds.length b2) (.slice B3 m1.e.w.rows.length b3))
    have HU8 := jD (bel_set3 hR hlo (.slice B1 m1.sent.length b1) (.slice B2 m1.deeds.length b2) (.slice B3 m1.e.w.rows.length b3))
    clear hk8 hz8 hO hY0 hR
    refine wpAnyZ_one (i := 16) rfl rfl (by kernel_rfl) (fun K hK => ?_)
    (try simp only [gTA, gCZ, gCS])
    go_simp
    have hS2 := True.intro
    refine hK.out _ _ hS2 ?_
    clear hK K hS
    have hS := hS2
    clear hS2
    (try simp only [gTA, gCZ, gCS, Act.put, sTA, sCZ, sCS])
    obtain ⟨W8, HW8⟩ : ∃ u, Hid ((((wf.setCell ⟨bO, 0, none⟩ (.slice B1 m1.sent.length b1)).setCell ⟨bO, 1, none⟩ (.slice B2 m1.deeds.length b2)).setCell ⟨bO, 2, none⟩ (.slice B3 m1.e.w.rows.length b3)) = u) := ⟨_, jD rfl⟩
    rw [HW8.out] at HO8 HY8 HU8 ⊢
    clear HW8 r0 r1 r2 g0 g1 g2 hlo
    refine wpAnyZ_last rfl rfl (by kernel_rfl) (by kernel_rfl) (fun K hK => ?_)
    (try simp only [gTA, gCZ, gCS])
    go_simp
    refine hK.out _ _ ?_
    clear hK K
    (try simp only [gTA, gCZ, gCS, Act.put, sTA, sCZ, sCS])
    have HO := HO8
    have HY := HY8
    have HGX := jD (HGW.out.below HU8.out)
    have HQX := jD (HQA.out.imp fun q hq => hq.below HU8.out)
    clear HO8 HY8 HGW HQA HU8 hsum
    have HGW := HGX
    have HQA := HQX
    clear HGX HQX
    obtain ⟨x0, x1⟩ := cells2 HGW.out.r
    have hxl := HGW.out.r.lt
    go_wp2_with fail
    refine wp_free 11 [8] [] [] [(0, 62), (1, 63), (2, 64), (3, 65), (4, 66), (5, 67), (6, 61), (7, 68), (8, 69), (9, 20)] [[], [], [], [(1, 63), (2, 64)], [(3, 65)], [(0, 62), (4, 66)], [(5, 67)], [(6, 61)], [(6, 61)], []] (fun i v w => match i with | 0 => v = .agg #[.int .i64 md, .int .i64 sv] | 1 => v = .slice A0 al.length a0 | 2 => v = .slice Aa cl.length ca | 3 => ∃ g, v = .slice (some ⟨g, 0, none⟩) 2 2 ∧ CatAt w g [(.slice A0 al.length a0, al), (.slice Aa cl.length ca, cl)] | 4 => ALst w w.heap.size v (al ++ cl) | 5 => ∃ v1 v2 v3, v = .tuple #[.agg #[v1, v2, v3], .bool true] ∧ OutV w v1 v2 v3 m2.sent m2.deeds m2.e.w.rows | 6 => ∃ v1 v2 v3, v = .tuple #[.agg #[v1, v2, v3], .bool true] ∧ OutV w v1 v2 v3 m2.sent m2.deeds m2.e.w.rows | 7 => ∃ v1 v2 v3, v = .agg #[v1, v2, v3] ∧ OutV w v1 v2 v3 m2.sent m2.deeds m2.e.w.rows | 8 => v = .bool true | 9 => ∃ b, v = .pointer (some ⟨b, 0, none⟩) ∧ W8.heap.size ≤ b ∧ RowTo w b 27 3 [.slice none 0 0, .slice none 0 0, .slice none 0 0] | _ => True) (fun _ w w' => Below w.heap.size w w') (fun wc => Below W8.heap.size W8 wc) 2 (by kernel_rfl) (by rfl) (by kernel_rfl) (fun _ _ _ _ _ h => h) (Below.refl _ _).drew (fun _ _ => Below.refl _ _) ?bmo (fun k w w' h hb => bel_trans h hb) ?bob ?bof ?bfi
    case bmo =>
     intro k i v w w' hk1 hk2 hk3 h hb
     rcases i with _ | _ | _ | _ | _ | _ | _ | _ | _ | _ | i
     ·exact h
     ·exact h
     ·exact h
     ·obtain ⟨g, e, hr⟩ := h; exact ⟨g, e, hr.below hb⟩
     ·exact h.step hb
     ·obtain ⟨v1, v2, v3, e, ho⟩ := h; exact ⟨v1, v2, v3, e, ho.step hb⟩
     ·obtain ⟨v1, v2, v3, e, ho⟩ := h; exact ⟨v1, v2, v3, e, ho.step hb⟩
     ·obtain ⟨v1, v2, v3, e, ho⟩ := h; exact ⟨v1, v2, v3, e, ho.step hb⟩
     ·exact h
     ·obtain ⟨b, e, hlo, hr⟩ := h; exact ⟨b, e, hlo, hr.below hb hr.lt⟩
     ·exact h
    case bob =>
     intro i hi hnf vals wc hR hV
     rcases i with _ | _ | _ | _ | _ | _ | _ | _ | _ | _ | i
     ·clear hV hnf hi
      have q0 := (hR.cell (p := ⟨w0.heap.size, 0, none⟩) hxl).trans x0
      have q1 := (hR.cell (p := ⟨w0.heap.size, 1, none⟩) hxl).trans x1
      refine ⟨_, rfl, Or.inl ⟨by rfl, Or.inl ⟨.agg #[.int .i64 md, .int .i64 sv], wc, ?_, rfl, (Below.refl _ _)⟩⟩⟩
      (try simp only [putF, List.getD_cons_succ, List.getD_cons_zero, Go.Act.put, sTA, sCZ, sCS])
      go_simp
      try rfl
     ·clear hV hnf hi
      refine ⟨_, rfl, Or.inl ⟨by rfl, Or.inl ⟨.slice A0 al.length a0, wc, ?_, rfl, (Below.refl _ _)⟩⟩⟩
      (try simp only [putF, List.getD_cons_succ, List.getD_cons_zero, Go.Act.put, sTA, sCZ, sCS])
      go_simp
      try rfl
     ·clear hV hnf hi
      refine ⟨_, rfl, Or.inl ⟨by rfl, Or.inl ⟨.slice Aa cl.length ca, wc, ?_, rfl, (Below.refl _ _)⟩⟩⟩
      (try simp only [putF, List.getD_cons_succ, List.getD_cons_zero, Go.Act.put, sTA, sCZ, sCS])
      go_simp
      try rfl
     ·have h1 : (vals 1) = .slice A0 al.length a0 := hV (1, 63) (by decide)
      have h2 : (vals 2) = .slice Aa cl.length ca := hV (2, 64) (by decide)
      clear hV hnf hi
      refine ⟨_, rfl, Or.inl ⟨by rfl, Or.inl ⟨.slice (some ⟨wc.heap.size, 0, none⟩) 2 2, (wc.alloc (.cells #[.slice A0 al.length a0, .slice Aa cl.length ca] 33)), ?_, ⟨_, rfl, catAt2 (RowTo.whole wc _ _) (HGW.out.s.imp fun q hq => (hq.below hR).below ((Below.refl _ _).alloc (nL _) _)) (HQA.out.imp fun q hq => (hq.below hR).below ((Below.refl _ _).alloc (nL _) _))⟩, ((Below.refl _ _).alloc (nL _) _)⟩⟩⟩
      (try simp only [putF, List.getD_cons_succ, List.getD_cons_zero, Go.Act.put, sTA, sCZ, sCS, h1, h2])
      go_simp
      try rfl
     ·have h3 : ∃ g, (vals 3) = .slice (some ⟨g, 0, none⟩) 2 2 ∧ CatAt wc g [(.slice A0 al.length a0, al), (.slice Aa cl.length ca, cl)] := hV (3, 65) (by decide)
      clear hV hnf hi
      obtain ⟨g, e3, hcat⟩ := h3
      refine ⟨_, rfl, Or.inl ⟨by rfl, Or.inr ⟨24, #[.slice (some ⟨g, 0, none⟩) 2 2], ?_, ?_⟩⟩⟩
      ·(try simp only [putF, List.getD_cons_succ, List.getD_cons_zero, Go.Act.put, sTA, sCZ, sCS, e3])
       go_simp
       try rfl
      ·refine (concA_any g 2 _ wc hcat (fun y hy => ?_) (by simp)).mono ?_
       ·simp only [List.mem_cons, List.not_mem_nil, or_false] at hy
        rcases hy with rfl | rfl
        ·exact Nat.le_trans HL1.out (by omega)
        ·show cl.length ≤ 50; rw [HCL.out]; omega
       ·rintro e w' ⟨u, rfl, ⟨g', hs', _⟩, hb⟩
        refine ⟨u, rfl, ?_, hb⟩
        have e : ([(.slice A0 al.length a0, al), (.slice Aa cl.length ca, cl)] : List (Value × List Act)).flatMap (·.2) = al ++ cl := by simp
        rw [e] at hs'
        refine hs'.alst (by have := HL1.out; have := HCL.out; simp; omega) (fun a ha => ?_)
        have hd : a.data.size ≤ 1000 := by
         rcases List.mem_append.1 ha with ha | ha
         ·exact HZ1.out a ha
         ·exact HCD.out a ha
        omega
     ·have h0 : (vals 0) = .agg #[.int .i64 md, .int .i64 sv] := hV (0, 62) (by decide)
      have h4 : ALst wc wc.heap.size (vals 4) (al ++ cl) := hV (4, 66) (by decide)
      clear hV hnf hi
      refine ⟨_, rfl, Or.inl ⟨by rfl, Or.inr ⟨11, #[.agg #[.int .i64 md, .int .i64 sv], vals 4], ?_, ?_⟩⟩⟩
      ·(try simp only [putF, List.getD_cons_succ, List.getD_cons_zero, Go.Act.put, sTA, sCZ, sCS, h0])
       go_simp
       try rfl
      ·refine (HP2.out _ wc h4 (bel_add' HGW.out.bel hR HGW.out.bel.size)).mono ?_
       rintro e w' ⟨v1, v2, v3, rfl, ho, hb⟩
       exact ⟨_, rfl, ⟨v1, v2, v3, rfl, ho⟩, hb⟩
     ·have h5 : ∃ v1 v2 v3, (vals 5) = .tuple #[.agg #[v1, v2, v3], .bool true] ∧ OutV wc v1 v2 v3 m2.sent m2.deeds m2.e.w.rows := hV (5, 67) (by decide)
      clear hV hnf hi
      refine ⟨_, rfl, Or.inl ⟨by rfl, Or.inl ⟨(vals 5), wc, ?_, h5, (Below.refl _ _)⟩⟩⟩
      (try simp only [putF, List.getD_cons_succ, List.getD_cons_zero, Go.Act.put, sTA, sCZ, sCS])
      go_simp
      try rfl
     ·have h6 : ∃ v1 v2 v3, (vals 6) = .tuple #[.agg #[v1, v2, v3], .bool true] ∧ OutV wc v1 v2 v3 m2.sent m2.deeds m2.e.w.rows := hV (6, 61) (by decide)
      clear hV hnf hi
      obtain ⟨v1, v2, v3, e7, ho⟩ := h6
      refine ⟨_, rfl, Or.inl ⟨by rfl, Or.inl ⟨.agg #[v1, v2, v3], wc, ?_, ⟨v1, v2, v3, rfl, ho⟩, (Below.refl _ _)⟩⟩⟩
      (try simp only [putF, List.getD_cons_succ, List.getD_cons_zero, Go.Act.put, sTA, sCZ, sCS, e7])
      go_simp
      try rfl
     ·exact absurd (by decide) hnf
     ·clear hV hnf hi
      refine ⟨_, rfl, Or.inl ⟨by rfl, Or.inl ⟨.pointer (some ⟨wc.heap.size, 0, none⟩), (wc.alloc (.cells #[.slice none 0 0, .slice none 0 0, .slice none 0 0] 27)), ?_, ⟨_, rfl, hR.size, RowTo.whole wc _ _⟩, ((Below.refl _ _).alloc (nL _) _)⟩⟩⟩
      (try simp only [putF, List.getD_cons_succ, List.getD_cons_zero, Go.Act.put, sTA, sCZ, sCS])
      go_simp
      try rfl
     ·exact absurd hi (by simp)
    case bof =>
     intro i hi vals wc hR hV
     obtain rfl := List.mem_singleton.1 hi
     ·have h6 : ∃ v1 v2 v3, (vals 6) = .tuple #[.agg #[v1, v2, v3], .bool true] ∧ OutV wc v1 v2 v3 m2.sent m2.deeds m2.e.w.rows := hV (6, 61) (by decide)
      clear hV hi
      obtain ⟨v1, v2, v3, e7, ho⟩ := h6
      refine ⟨_, .bool true, rfl, by rfl, fun w' => ?_, rfl⟩
      (try simp only [putF, List.getD_cons_succ, List.getD_cons_zero, Go.Act.put, sTA, sCZ, sCS, e7])
      go_simp
      try rfl
    case bfi =>
     intro vals wf hR hV
     have hS := True.intro
     have f7 : ∃ v1 v2 v3, (vals 7) = .agg #[v1, v2, v3] ∧ OutV wf v1 v2 v3 m2.sent m2.deeds m2.e.w.rows := hV 7 (by decide) (fun k hk => by simp at hk)
     have f8 : (vals 8) = .bool true := hV 8 (by decide) (fun k hk => by simp at hk)
     have f9 : ∃ b, (vals 9) = .pointer (some ⟨b, 0, none⟩) ∧ W8.heap.size ≤ b ∧ RowTo wf b 27 3 [.slice none 0 0, .slice none 0 0, .slice none 0 0] := hV 9 (by decide) (fun k hk => by simp at hk)
     clear hV
     obtain ⟨v1, v2, v3, eo, hO⟩ := f7
     obtain ⟨bP, ep, hlo, hY0⟩ := f9
     obtain ⟨D1, d1, rfl, _⟩ := hO.s.form
     obtain ⟨D2, d2, rfl, _⟩ := hO.d.form
     obtain ⟨D3, d3, rfl, _⟩ := hO.r.form
     (try simp only [putF, List.getD_cons_succ, List.getD_cons_zero, Go.Act.put, sTA, sCZ, sCS, eo, ep, f8])
     obtain ⟨r0, r1, r2⟩ := cells3 hY0
     have g0 := hY0.frozen 0
     have g1 := hY0.frozen 1
     have g2 := hY0.frozen 2
     have hbO := HY.out.lt
     clear x0 x1 hxl
     have hk8 : ∀ b', b' ≠ bP → (((wf.setCell ⟨bP, 0, none⟩ (.slice D1 m2.sent.length d1)).setCell ⟨bP, 1, none⟩ (.slice D2 m2.deeds.length d2)).setCell ⟨bP, 2, none⟩ (.slice D3 m2.e.w.rows.length d3)).heap[b']? = wf.heap[b']? := fun b' hb => by rw [Below.heap_setCell _ _ _ _ hb, Below.heap_setCell _ _ _ _ hb, Below.heap_setCell _ _ _ _ hb]
     have hz8 : (((wf.setCell ⟨bP, 0, none⟩ (.slice D1 m2.sent.length d1)).setCell ⟨bP, 1, none⟩ (.slice D2 m2.deeds.length d2)).setCell ⟨bP, 2, none⟩ (.slice D3 m2.e.w.rows.length d3)).heap.size = wf.heap.size := by simp [World.setCell]
     have HO8 := jD (hO.off (slOnly3 hY0) hz8 hk8)
     have HY8 := jD (hY0.set3 (.slice D1 m2.sent.length d1) (.slice D2 m2.deeds.length d2) (.slice D3 m2.e.w.rows.length d3))
     have HU8 := jD (bel_set3 hR hlo (.slice D1 m2.sent.length d1) (.slice D2 m2.deeds.length d2) (.slice D3 m2.e.w.rows.length d3))
     clear hk8 hz8 hO hY0 hR
     refine wpAnyZ_one (i := 10) rfl rfl (by kernel_rfl) (fun K hK => ?_)
     (try simp only [gTA, gCZ, gCS])
     go_simp
     have hS2 := True.intro
     refine hK.out _ _ hS2 ?_
     clear hK K hS
     have hS := hS2
     clear hS2
     (try simp only [gTA, gCZ, gCS, Act.put, sTA, sCZ, sCS])
     obtain ⟨W9, HW8⟩ : ∃ u, Hid ((((wf.setCell ⟨bP, 0, none⟩ (.slice D1 m2.sent.length d1)).setCell ⟨bP, 1, none⟩ (.slice D2 m2.deeds.length d2)).setCell ⟨bP, 2, none⟩ (.slice D3 m2.e.w.rows.length d3)) = u) := ⟨_, jD rfl⟩
     rw [HW8.out] at HO8 HY8 HU8 ⊢
     clear HW8 r0 r1 r2 g0 g1 g2 hlo
     refine wpAnyZ_last rfl rfl (by kernel_rfl) (by kernel_rfl) (fun K hK => ?_)
     (try simp only [gTA, gCZ, gCS])
     go_simp
     refine hK.out _ _ ?_
     clear hK K
     (try simp only [gTA, gCZ, gCS, Act.put, sTA, sCZ, sCS])
     have HB9 := jD (bel_add' HGW.out.bel HU8.out HGW.out.bel.size)
     have HOO := jD (show OutAt w W9 W9.heap.size bO (.slice B1 m1.sent.length b1) (.slice B2 m1.deeds.length b2) (.slice B3 m1.e.w.rows.length b3) m1.sent m1.deeds m1.e.w.rows from by have h := HO.out.step HU8.out; exact OutAt.mk (HY.out.below HU8.out HY.out.lt) h.s h.d h.r (nL _) HB9.out)
     have HOP := jD (show OutAt w W9 W9.heap.size bP (.slice D1 m2.sent.length d1) (.slice D2 m2.deeds.length d2) (.slice D3 m2.e.w.rows.length d3) m2.sent m2.deeds m2.e.w.rows from OutAt.mk HY8.out HO8.out.s HO8.out.d HO8.out.r (nL _) HB9.out)
     clear HO HY HO8 HY8 HGW HQA HU8 HB9
     have hp1 : p < m1.sent.length := by rw [HS6.out]; exact hp6
     have hp2 : p < m2.sent.length := by rw [HS7.out]; exact hp6
     have HEQ := jD (show m1.sent[p] = (m2.sent[p] ++ cInone) ++ cIprep from by
      have h := HPP.out.1
      rw [List.getD_eq_getElem?_getD, List.getD_eq_getElem?_getD, List.getElem?_eq_getElem hp1, List.getElem?_eq_getElem hp2] at h
      exact h)
     have HRW := jD HPP.out.2
     have HSB := jD (HOP.out.s.sizes _ (List.getElem_mem hp2))
     obtain ⟨qO, uO, hvO, hqO, cO⟩ := HOO.out.s.pt hp1
     obtain ⟨qP, uP, hvP, hqP, cP⟩ := HOP.out.s.pt hp2
     rw [HEQ.out] at cO
     generalize m2.sent[p] = s2 at *
     have HCO := jD cO
     have HCP := jD cP
     clear cO cP HEQ HPP
     have HLO := jD (show qO < W9.heap.size from hqO)
     have HLP := jD (show qP < W9.heap.size from hqP)
     unfold cInone cIprep at *
     have hs1 := fun W => run_string_add_sum (P := Tryz.prog) W s2 (⟨#[82, 5, 73, 110, 111, 110, 101]⟩ : ByteArray) (by have := HSB.out; show s2.size + 7 ≤ _; omega)
     have hs2 := fun W => run_string_add_sum (P := Tryz.prog) W (s2 ++ (⟨#[82, 5, 73, 110, 111, 110, 101]⟩ : ByteArray)) (⟨#[82, 14, 73, 33, 110, 111, 116, 32, 112, 114, 101, 112, 97, 114, 101, 100]⟩ : ByteArray) (by have := HSB.out; rw [ByteArray.size_append]; show s2.size + 7 + 16 ≤ _; omega)
     have hp1I : (p : Int) < (m1.sent.length : Int) := by omega
     have hp2I : (p : Int) < (m2.sent.length : Int) := by omega
     subst hvO
     subst hvP
     go_wp2_with fail
     refine wp_freeX 34 [(0, 70), (1, 71), (2, 72), (3, 73), (4, 74), (5, 75), (6, 76), (7, 77), (8, 78), (9, 79), (10, 80), (11, 81), (12, 82), (13, 83), (14, 84), (15, 85), (16, 86), (17, 87), (18, 88), (19, 89), (20, 90), (21, 91), (22, 92), (23, 93), (24, 94), (25, 95), (26, 96), (27, 97), (28, 98), (29, 99), (30, 100), (31, 101), (32, 102), (33, 103)] [[], [(0, 70)], [(1, 71)], [(1, 71), (2, 72)], [(3, 73)], [(4, 74)], [(4, 74), (5, 75)], [(4, 74), (6, 76)], [(7, 77)], [(8, 78)], [(8, 78), (9, 79)], [(8, 78), (10, 80)], [(11, 81)], [(12, 82)], [(12, 82), (13, 83)], [(12, 82)], [(12, 82), (14, 84), (15, 85)], [(12, 82), (16, 86)], [(12, 82)], [(12, 82), (18, 88)], [(12, 82)], [(12, 82), (19, 89), (20, 90)], [(12, 82), (21, 91)], [(12, 82), (22, 92)], [(12, 82), (23, 93)], [(12, 82), (17, 87), (24, 94)], [(12, 82), (25, 95)], [(26, 96)], [(27, 97)], [(27, 97), (28, 98)], [(27, 97)], [(27, 97), (30, 100)], [(27, 97), (29, 99), (31, 101)], [(27, 97), (32, 102)]] [.bool true, .bool true, .bool true, .bool true, .bool true, .int .i64 0, .bool true, .bool true, .bool true, .int .i64 0, .bool true, .bool true, .bool true, .pointer (some ⟨bO, 0, none⟩), .slice (some ⟨qO, uO, none⟩) m1.sent.length b1, .int .i64 p, .pointer (some ⟨qO, uO + p, none⟩), .string ((s2 ++ (⟨#[82, 5, 73, 110, 111, 110, 101]⟩ : ByteArray)) ++ (⟨#[82, 14, 73, 33, 110, 111, 116, 32, 112, 114, 101, 112, 97, 114, 101, 100]⟩ : ByteArray)), .pointer (some ⟨bP, 0, none⟩), .slice (some ⟨qP, uP, none⟩) m2.sent.length d1, .int .i64 p, .pointer (some ⟨qP, uP + p, none⟩), .string s2, .string (s2 ++ (⟨#[82, 5, 73, 110, 111, 110, 101]⟩ : ByteArray)), .string ((s2 ++ (⟨#[82, 5, 73, 110, 111, 110, 101]⟩ : ByteArray)) ++ (⟨#[82, 14, 73, 33, 110, 111, 116, 32, 112, 114, 101, 112, 97, 114, 101, 100]⟩ : ByteArray)), .bool true, .bool true, .bool true, .pointer (some ⟨bO, 2, none⟩), .slice B3 m1.e.w.rows.length b3, .pointer (some ⟨bP, 2, none⟩), .slice D3 m2.e.w.rows.length d3, .bool true, .bool true] (fun _ w w' => Below w.heap.size w w') (fun wc => OutAt w wc W9.heap.size bO (.slice (some ⟨qO, uO, none⟩) m1.sent.length b1) (.slice B2 m1.deeds.length b2) (.slice B3 m1.e.w.rows.length b3) m1.sent m1.deeds m1.e.w.rows ∧ OutAt w wc W9.heap.size bP (.slice (some ⟨qP, uP, none⟩) m2.sent.length d1) (.slice D2 m2.deeds.length d2) (.slice D3 m2.e.w.rows.length d3) m2.sent m2.deeds m2.e.w.rows ∧ wc.cell? ⟨qO, uO + p, none⟩ = some (.string ((s2 ++ (⟨#[82, 5, 73, 110, 111, 110, 101]⟩ : ByteArray)) ++ (⟨#[82, 14, 73, 33, 110, 111, 116, 32, 112, 114, 101, 112, 97, 114, 101, 100]⟩ : ByteArray))) ∧ wc.cell? ⟨qP, uP + p, none⟩ = some (.string s2)) 1 (by kernel_rfl) (by rfl) (by kernel_rfl) (fun _ _ _ _ _ h => h) ⟨HOO.out.below (Below.refl _ _).drew, HOP.out.below (Below.refl _ _).drew, HCO.out, HCP.out⟩ (fun _ _ => Below.refl _ _) (fun _ _ _ h hb => ⟨h.1.below hb, h.2.1.below hb, (hb.cell (p := ⟨qO, uO + p, none⟩) (Nat.lt_of_lt_of_le HLO.out h.1.bb)).trans h.2.2.1, (hb.cell (p := ⟨qP, uP + p, none⟩) (Nat.lt_of_lt_of_le HLP.out h.1.bb)).trans h.2.2.2⟩) ?cob ?cfi
     case cob =>
      intro i hi wc hR
      obtain ⟨p0, p1, p2⟩ := cells3 hR.1.o
      have pl := hR.1.o.lt
      obtain ⟨r0, r1, r2⟩ := cells3 hR.2.1.o
      have rl := hR.2.1.o.lt
      have pc := hR.2.2.1
      have qc := hR.2.2.2
      by_cases hk32 : i = 32
      ·subst hk32
       refine ⟨_, rfl, ?_, Or.inr ⟨25, #[.slice B3 m1.e.w.rows.length b3, .slice D3 m2.e.w.rows.length d3], ?_, ?_⟩⟩
       ·((try simp only [putF, List.getD_cons_succ, List.getD_cons_zero, Go.Act.put, sTA, sCZ, sCS]); try rfl)
       ·((try simp only [putF, List.getD_cons_succ, List.getD_cons_zero, Go.Act.put, sTA, sCZ, sCS]); go_simp; try rfl)
       ·refine (equalP_same _ _ m2.e.w.rows wc W9.heap.size (by have h := hR.1.r; rw [HRW.out] at h ⊢; exact h) hR.2.1.r).mono ?_
        rintro e w' ⟨rfl, n, rfl⟩
        exact ⟨rfl, below_drewN (Below.refl _ _) n⟩
      rcases i with _ | _ | _ | _ | _ | _ | _ | _ | _ | _ | _ | _ | _ | _ | _ | _ | _ | _ | _ | _ | _ | _ | _ | _ | _ | _ | _ | _ | _ | _ | _ | _ | _ | _ | i
      all_goals (first | contradiction | exact ⟨_, rfl, (by (try simp only [putF, List.getD_cons_succ, List.getD_cons_zero, Go.Act.put, sTA, sCZ, sCS]); try rfl), Or.inl (by (try simp only [putF, List.getD_cons_succ, List.getD_cons_zero, Go.Act.put, sTA, sCZ, sCS]); go_simp; try rfl)⟩ | exact absurd hi (by simp))
     case cfi =>
      intro wf hR
      have hS := True.intro
      (try simp only [putF, List.getD_cons_succ, List.getD_cons_zero, Go.Act.put, sTA, sCZ, sCS])
      refine wpAnyZ_last rfl rfl (by kernel_rfl) (by kernel_rfl) (fun K hK => ?_)
      (try simp only [gTA, gCZ, gCS])
      go_simp
      refine hK.out _ _ ?_
      clear hK K
      (try simp only [gTA, gCZ, gCS, Act.put, sTA, sCZ, sCS])
      go_wp2
      go_ret
      exact ⟨rfl, hR.1.bel⟩
end Go.Proofs.YtpbaobmegomfpacGreatDoor
