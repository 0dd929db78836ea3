/-
  Texts of the proof, one behind the other: WTopTwice.
-/
import Derived.Test.YtpbaobmegomfpacGreatDoorTTopTwice1
set_option linter.unusedVariables false
set_option linter.unusedSimpArgs false
set_option maxRecDepth 100000
open List renaming getElem_toArray → gTA, getElem_cons_zero → gCZ, getElem_cons_succ → gCS, setIfInBounds_toArray → sTA, set_cons_zero → sCZ, set_cons_succ → sCS
open Go.Lib renaming hid → jD
open Nat renaming le_refl → nL
namespace Go.Proofs.YtpbaobmegomfpacGreatDoor
open Go.RowKit
theorem topTwice.laidFacts {W : World} (h : laidMetH Tryz.prog Rows.topTwiceRow.laid W) : Tabs W W.heap.size :=
 tabs_of (words_of h (by simp [Rows.topTwiceRow, Rows.laid_tillerman_say_words, List.range, List.range.loop, wordL])) (leads_of h (by simp [Rows.topTwiceRow, Rows.laid_tillerman_say_leads, List.range, List.range.loop, leadL]))
def Tr5 (W : World) (k : Nat) (w w' : World) : Prop := Below W.heap.size w w' ∧ (k ≠ 5 → Below w.heap.size w w') ∧ w.heap.size ≤ w'.heap.size ∧ ∀ b n xs, RowTo w b 27 n xs → w'.heap[b]? = w.heap[b]?
theorem tr5_refl {W : World} (k : Nat) (w : World) : Tr5 W k w w := ⟨Below.refl _ _, fun _ => Below.refl _ _, nL _, fun _ _ _ _ => rfl⟩
theorem tr5_of {W w w' : World} {k : Nat} (h : Below w.heap.size w w') (hW : W.heap.size ≤ w.heap.size) : Tr5 W k w w' := ⟨h.mono hW, fun _ => h, h.size, fun b n xs hr => h.block b hr.lt⟩
theorem tr5_app {W w w' : World} {k : Nat} {v : Value} {g : Option Nat} {n : Nat} {xs : List Value} (h : w.grownBy w' g) (hs : Sl w 45 3 v g n xs) (hg : ∀ b, g = some b → W.heap.size ≤ b) (hW : W.heap.size ≤ w.heap.size) (hk : k = 5) : Tr5 W k w w' := by
 refine ⟨(Below.refl W.heap.size w).grown h hW hg, fun e => absurd hk e, h.size, fun b n xs hr => h.block b hr.lt fun e => ?_⟩
 rcases hs.form with ⟨h0, _⟩ | ⟨b', off, cap, tot, h0, _, _, hr', _⟩
 ·rw [h0] at e; cases e
 ·rw [h0] at e
  injection e with e
  subst e
  obtain ⟨c1, e1, _⟩ := hr
  obtain ⟨c2, e2, _⟩ := hr'
  rw [e1] at e2
  injection e2 with e2
  injection e2 with _ e2
  exact absurd e2 (by decide)
set_option maxHeartbeats 4000000 in
theorem walk_TopTwice (v : Value) (l : List Raw) (v2 : Value) (l2 : List Raw) (mode srv : Int) (w : World) (hl : RLst w w.heap.size v l) (hl2 : RLst w w.heap.size v2 l2) (hm : (Lit.int .i64 mode).wf = true) (hs : (Lit.int .i64 srv).wf = true) (hT : Tabs w w.heap.size) :
  Calls Tryz.prog 9 #[v, v2, .int .i64 mode, .int .i64 srv] w fun e w' => e = .returned (.bool true) ∧ Below w.heap.size w w' := by
 have hmb := i64_bd hm
 have hsb := i64_bd hs
 have hae := actsR_E (l := l) (most := 50) (n := 5) (by omega) (by omega)
 have hae2 := actsR_E (l := l2) (most := 20) (n := 5) (by omega) (by omega)
 have hl1 := actsR_len (l := l) (most := 50) (n := 5)
 have hl3 := actsR_len (l := l2) (most := 20) (n := 5)
 have hu := setupR_E mode srv
 have hsr := pickI_bd srv (m := 4) (by omega)
 have happ : actsE (actsR l 50 5 ++ actsR l2 20 5) = 0 := actsE_app.2 ⟨hae, hae2⟩
 have hE1 := run_E hu (Nat.le_trans hl1 (by omega)) hae
 have hE3 := run_E hu (show (actsR l 50 5 ++ actsR l2 20 5).length ≤ 300 by rw [List.length_append]; omega) happ
 have hpp := twice_pool (mode := 1 + pickI mode 3) (n := (1 + pickI srv 4).toNat) (by omega) happ
 have hse := setup_any mode srv
 have HS := jD (fun wc => hse wc hmb.1 hmb.2 hsb.1 hsb.2)
 have HA1 := jD (fun (wc : World) (hb : Below w.heap.size w wc) => acts_any v l 50 5 wc (hl.step hb) (hT.below hb).wo (by omega) (by omega) (by omega))
 have HA2 := jD (fun (wc : World) (hb : Below w.heap.size w wc) => acts_any v2 l2 20 5 wc (hl2.step hb) (hT.below hb).wo (by omega) (by omega) (by omega))
 have HP1 := jD (fun (out : Value) (wc : World) (h : ALst wc wc.heap.size out (actsR l 50 5)) (hb : Below w.heap.size w wc) => playedT_any (1 + pickI mode 3) (1 + pickI srv 4) out _ wc h ((hT.below hb).up hb.size) hE1)
 have HP3 := jD (fun (out : Value) (wc : World) (h : ALst wc wc.heap.size out (actsR l 50 5 ++ actsR l2 20 5)) (hb : Below w.heap.size w wc) => playedT_any (1 + pickI mode 3) (1 + pickI srv 4) out _ wc h ((hT.below hb).up hb.size) hE3)
 have HAL := jD (fun (out : Value) (w0 wc : World) (h : ActsAt w0 wc out (actsR l 50 5)) => h.alst (Nat.le_trans actsR_len (by omega)) (actsR_size (n := 5)))
 have HZ1 := jD (actsR_size (l := l) (most := 50) (n := 5))
 have HZ2 := jD (actsR_size (l := l2) (most := 20) (n := 5))
 obtain ⟨E, e, rfl, he⟩ := hl.form
 obtain ⟨E', e', rfl, he'⟩ := hl2.form
 have HPP := jD hpp
 have HS6 := jD (ran_sent (1 + pickI mode 3) (n := (1 + pickI srv 4).toNat) (by omega) hae)
 have HS7 := jD (ran_sent (1 + pickI mode 3) (n := (1 + pickI srv 4).toNat) (by omega) happ)
 generalize ranM (1 + pickI mode 3) (1 + pickI srv 4).toNat (actsR l 50 5) = m1 at *
 generalize ranM (1 + pickI mode 3) (1 + pickI srv 4).toNat (actsR l 50 5 ++ actsR l2 20 5) = m3 at *
 have HL1 := jD hl1
 have HL2 := jD hl3
 generalize actsR l 50 5 = al at *
 generalize actsR l2 20 5 = bl at *
 generalize 1 + pickI mode 3 = md at *
 generalize 1 + pickI srv 4 = sv at *
 clear hmb hsb hae hae2 hl1 hl3 hu hsr happ hE1 hE3 hpp hse hl hl2 hm hs hT
 go_enter Tryz.func9, Tryz.ntmps9
 go_wp2_with fail
 refine (HS.out _).mono ?_
 rintro e0 w0 ⟨rfl, hb0⟩
 have n0 := (Below.refl w0.heap.size w0).alloc (nL _) (.cells #[.int .i64 md, .int .i64 sv] 31)
 have X0 := RowTo.whole w0 #[.int .i64 md, .int .i64 sv] 31
 have HB0 := jD (bel_add' hb0 n0 hb0.size)
 have HX0 := jD X0
 obtain ⟨x0, x1⟩ := cells2 X0
 have hxl := X0.lt
 clear hb0 n0 X0 HS
 go_wp2_with fail
 refine (HA1.out _ HB0.out).mono ?_
 rintro e1 w1 ⟨out, rfl, hA⟩
 obtain ⟨g0, hsl, hg0⟩ := hA.sl
 have ha := HAL.out _ _ _ hA
 have HB1 := jD (bel_add' HB0.out hA.bel HB0.out.size)
 have HX1 := jD (HX0.out.below hA.bel HX0.out.lt)
 have HA0 := jD (And.intro hsl ha)
 obtain ⟨A0, c0, rfl, _⟩ := ha.form
 obtain ⟨x0, x1⟩ := cells2 HX1.out
 have hxl := HX1.out.lt
 clear hA ha hsl hg0 HAL HB0 HX0
 go_wp2_with fail
 refine (HP1.out _ _ HA0.out.2 HB1.out).mono ?_
 rintro e2 w2 ⟨v1, v2, v3, rfl, ho, hb2⟩
 obtain ⟨A1, c1, rfl, _⟩ := ho.s.form
 obtain ⟨A2, c2, rfl, _⟩ := ho.d.form
 obtain ⟨A3, c3, rfl, _⟩ := ho.r.form
 have n2 := (Below.refl w2.heap.size w2).alloc (nL _) (.cells #[.slice A1 m1.sent.length c1, .slice A2 m1.deeds.length c2, .slice A3 m1.e.w.rows.length c3] 27)
 have X2 := RowTo.whole w2 #[.slice A1 m1.sent.length c1, .slice A2 m1.deeds.length c2, .slice A3 m1.e.w.rows.length c3] 27
 have H2 := jD (And.intro (ho.step n2) (And.intro X2 (bel_add' (bel_trans HB1.out hb2) n2 (bel_trans HB1.out hb2).size)))
 have HA2' := jD (And.intro ((HA0.out.1.below hb2).below n2) ((HA0.out.2.step hb2).step n2))
 have HX2 := jD ((HX1.out.below hb2 HX1.out.lt).below n2 (HX1.out.below hb2 HX1.out.lt).lt)
 obtain ⟨x0, x1⟩ := cells2 HX2.out
 have hxl := HX2.out.lt
 clear ho hb2 n2 X2 HA0 HX1 HB1
 go_wp2_with fail
 refine (HP1.out _ _ HA2'.out.2 H2.out.2.2).mono ?_
 rintro e3 w3 ⟨u1, u2, u3, rfl, ho, hb3⟩
 obtain ⟨E1, e1, rfl, _⟩ := ho.s.form
 obtain ⟨E2, e2, rfl, _⟩ := ho.d.form
 obtain ⟨E3, e3, rfl, _⟩ := ho.r.form
 have n3 := (Below.refl w3.heap.size w3).alloc (nL _) (.cells #[.slice E1 m1.sent.length e1, .slice E2 m1.deeds.length e2, .slice E3 m1.e.w.rows.length e3] 27)
 have X3 := RowTo.whole w3 #[.slice E1 m1.sent.length e1, .slice E2 m1.deeds.length e2, .slice E3 m1.e.w.rows.length e3] 27
 have H3 := jD (And.intro (ho.step n3) (And.intro X3 (And.intro ((H2.out.1.step hb3).step n3) ((H2.out.2.1.below hb3 H2.out.2.1.lt).below n3 (H2.out.2.1.below hb3 H2.out.2.1.lt).lt))))
 have HB3 := jD (bel_add' (bel_trans H2.out.2.2 hb3) n3 (bel_trans H2.out.2.2 hb3).size)
 have HA3 := jD (And.intro ((HA2'.out.1.below hb3).below n3) ((HA2'.out.2.step hb3).step n3))
 have HX3 := jD ((HX2.out.below hb3 HX2.out.lt).below n3 (HX2.out.below hb3 HX2.out.lt).lt)
 obtain ⟨x0, x1⟩ := cells2 HX3.out
 have hxl := HX3.out.lt
 obtain ⟨y0, y1, y2⟩ := cells3 H3.out.2.2.2
 have hyl := H3.out.2.2.2.lt
 obtain ⟨z0, z1, z2⟩ := cells3 X3
 have hzl := X3.lt
 clear ho hb3 n3 X3 H2 HA2' HX2
 go_wp2_with fail
 obtain ⟨W, HW⟩ : ∃ u, Hid ((w3.alloc (.cells #[.slice E1 m1.sent.length e1, .slice E2 m1.deeds.length e2, .slice E3 m1.e.w.rows.length e3] 27)) = u) := ⟨_, jD rfl⟩
 rw [HW.out] at H3 HB3 HA3 HX3 x0 x1 hxl y0 y1 y2 hyl z0 z1 z2 hzl ⊢
 clear HW
 refine wp_free 12 [9] [(5, 2), (5, 4)] [(5, 6), (5, 7), (5, 8), (5, 9)] [(0, 36), (1, 37), (2, 38), (3, 39), (4, 40), (5, 41), (6, 42), (7, 35), (8, 43), (9, 44), (10, 15)] [[], [], [(1, 37)], [], [(3, 39)], [(2, 38), (4, 40)], [(0, 36), (5, 41)], [(6, 42)], [(7, 35)], [(7, 35)], []] (fun i v w => match i with | 0 => v = .agg #[.int .i64 md, .int .i64 sv] | 1 => v = .slice A0 al.length c0 | 2 => ∃ g, Sl w 45 3 v g al.length (al.map actV).flatten ∧ ∀ b, g = some b → W.heap.size ≤ b | 3 => v = .slice E' l2.length e' | 4 => ∃ g, Sl w 45 3 v g bl.length (bl.map actV).flatten | 5 => ALst w w.heap.size v (al ++ bl) | 6 => ∃ v1 v2 v3, v = .tuple #[.agg #[v1, v2, v3], .bool true] ∧ OutV w v1 v2 v3 m3.sent m3.deeds m3.e.w.rows | 7 => ∃ v1 v2 v3, v = .tuple #[.agg #[v1, v2, v3], .bool true] ∧ OutV w v1 v2 v3 m3.sent m3.deeds m3.e.w.rows | 8 => ∃ v1 v2 v3, v = .agg #[v1, v2, v3] ∧ OutV w v1 v2 v3 m3.sent m3.deeds m3.e.w.rows | 9 => v = .bool true | 10 => ∃ b, v = .pointer (some ⟨b, 0, none⟩) ∧ W.heap.size ≤ b ∧ RowTo w b 27 3 [.slice none 0 0, .slice none 0 0, .slice none 0 0] | _ => True) (Tr5 W) (fun wc => Below W.heap.size W wc) 2 (by kernel_rfl) (by rfl) (by kernel_rfl) (fun _ _ _ _ _ h => h) (Below.refl _ _).drew (fun k w => tr5_refl k w) ?amo (fun k w w' h hb => h.trans hb.1) ?aob ?aof ?afi
 case amo =>
  intro k i v w w' hk1 hk2 hk3 h hb
  rcases i with _ | _ | _ | _ | _ | _ | _ | _ | _ | _ | _ | i
  ·exact h
  ·exact h
  ·obtain ⟨g, h1, h2⟩ := h; exact ⟨g, h1.below (hb.2.1 (fun e => hk1 (by rw [e]; decide))), h2⟩
  ·exact h
  ·obtain ⟨g, h1⟩ := h; exact ⟨g, h1.below (hb.2.1 (fun e => hk1 (by rw [e]; decide)))⟩
  ·exact h.step (hb.2.1 hk3)
  ·obtain ⟨v1, v2, v3, e, ho⟩ := h; exact ⟨v1, v2, v3, e, ho.step (hb.2.1 (fun e => hk2 (by rw [e]; decide)))⟩
  ·obtain ⟨v1, v2, v3, e, ho⟩ := h; exact ⟨v1, v2, v3, e, ho.step (hb.2.1 (fun e => hk2 (by rw [e]; decide)))⟩
  ·obtain ⟨v1, v2, v3, e, ho⟩ := h; exact ⟨v1, v2, v3, e, ho.step (hb.2.1 (fun e => hk2 (by rw [e]; decide)))⟩
  ·exact h
  ·obtain ⟨b, e, hlo, hr⟩ := h; exact ⟨b, e, hlo, hr.same (hb.2.2.2 b _ _ hr)⟩
  ·exact h
 case aob =>
  intro i hi hnf vals wc hR hV
  rcases i with _ | _ | _ | _ | _ | _ | _ | _ | _ | _ | _ | i
  ·clear hV hnf hi
   have q0 := (hR.cell (p := ⟨w0.heap.size, 0, none⟩) hxl).trans x0
   have q1 := (hR.cell (p := ⟨w0.heap.size, 1, none⟩) hxl).trans x1
   refine ⟨_, rfl, Or.inl ⟨by rfl, Or.inl ⟨.agg #[.int .i64 md, .int .i64 sv], wc, ?_, rfl, (tr5_refl _ _)⟩⟩⟩
   (try simp only [putF, List.getD_cons_succ, List.getD_cons_zero, Go.Act.put, sTA, sCZ, sCS])
   go_simp
   try rfl
  ·clear hV hnf hi
   refine ⟨_, rfl, Or.inl ⟨by rfl, Or.inl ⟨.slice A0 al.length c0, wc, ?_, rfl, (tr5_refl _ _)⟩⟩⟩
   (try simp only [putF, List.getD_cons_succ, List.getD_cons_zero, Go.Act.put, sTA, sCZ, sCS])
   go_simp
   try rfl
  ·have h1 : (vals 1) = .slice A0 al.length c0 := hV (1, 37) (by decide)
   clear hV hnf hi
   refine ⟨_, rfl, Or.inl ⟨by rfl, Or.inr ⟨26, #[.slice A0 al.length c0], ?_, ?_⟩⟩⟩
   ·(try simp only [putF, List.getD_cons_succ, List.getD_cons_zero, Go.Act.put, sTA, sCZ, sCS, h1])
    go_simp
    try rfl
   ·refine (cloneA_any _ g0 al wc (HA3.out.1.below hR) (Nat.le_trans HL1.out (by omega))).mono ?_
    rintro e w' ⟨out, rfl, ha⟩
    obtain ⟨g, hs, hg⟩ := ha.sl
    exact ⟨out, rfl, ⟨g, hs, fun b hb => Nat.le_trans hR.size (hg b hb)⟩, tr5_of ha.bel hR.size⟩
  ·clear hV hnf hi
   refine ⟨_, rfl, Or.inl ⟨by rfl, Or.inl ⟨(.slice E' l2.length e'), wc, ?_, rfl, (tr5_refl _ _)⟩⟩⟩
   (try simp only [putF, List.getD_cons_succ, List.getD_cons_zero, Go.Act.put, sTA, sCZ, sCS])
   go_simp
   try rfl
  ·have h3 : (vals 3) = .slice E' l2.length e' := hV (3, 39) (by decide)
   clear hV hnf hi
   refine ⟨_, rfl, Or.inl ⟨by rfl, Or.inr ⟨13, #[.slice E' l2.length e', .int .i64 20, .int .i64 5], ?_, ?_⟩⟩⟩
   ·(try simp only [putF, List.getD_cons_succ, List.getD_cons_zero, Go.Act.put, sTA, sCZ, sCS, h3])
    go_simp
    try rfl
   ·refine (HA2.out wc (bel_add' HB3.out hR HB3.out.size)).mono ?_
    rintro e w' ⟨out, rfl, ha⟩
    obtain ⟨g, hs, _⟩ := ha.sl
    exact ⟨out, rfl, ⟨g, hs⟩, tr5_of ha.bel hR.size⟩
  ·have h2 : ∃ g, Sl wc 45 3 (vals 2) g al.length (al.map actV).flatten ∧ ∀ b, g = some b → W.heap.size ≤ b := hV (2, 38) (by decide)
   have h4 : ∃ g, Sl wc 45 3 (vals 4) g bl.length (bl.map actV).flatten := hV (4, 40) (by decide)
   clear hV hnf hi
   obtain ⟨g, hs, hg⟩ := h2
   obtain ⟨g2, hs2⟩ := h4
   obtain ⟨v', w', g', hrun, hs', hgr, hg'⟩ := app_acts hs hs2 (Nat.le_trans HL1.out (by omega)) (Nat.le_trans HL2.out (by omega))
   refine ⟨_, rfl, Or.inl ⟨by rfl, Or.inl ⟨v', w', exec_append _ _ _ _ rfl rfl rfl hrun, ?_, tr5_app hgr hs hg hR.size rfl⟩⟩⟩
   exact hs'.alst (by rw [List.length_append]; have := HL1.out; have := HL2.out; omega) (fun a ha => by rcases List.mem_append.1 ha with ha | ha; exact Nat.le_trans (HZ1.out a ha) (by omega); exact Nat.le_trans (HZ2.out a ha) (by omega))
  ·have h0 : (vals 0) = .agg #[.int .i64 md, .int .i64 sv] := hV (0, 36) (by decide)
   have h5 : ALst wc wc.heap.size (vals 5) (al ++ bl) := hV (5, 41) (by decide)
   clear hV hnf hi
   refine ⟨_, rfl, Or.inl ⟨by rfl, Or.inr ⟨11, #[.agg #[.int .i64 md, .int .i64 sv], vals 5], ?_, ?_⟩⟩⟩
   ·(try simp only [putF, List.getD_cons_succ, List.getD_cons_zero, Go.Act.put, sTA, sCZ, sCS, h0])
    go_simp
    try rfl
   ·refine (HP3.out _ wc h5 (bel_add' HB3.out hR HB3.out.size)).mono ?_
    rintro e w' ⟨v1, v2, v3, rfl, ho, hb⟩
    exact ⟨_, rfl, ⟨v1, v2, v3, rfl, ho⟩, tr5_of hb hR.size⟩
  ·have h6 : ∃ v1 v2 v3, (vals 6) = .tuple #[.agg #[v1, v2, v3], .bool true] ∧ OutV wc v1 v2 v3 m3.sent m3.deeds m3.e.w.rows := hV (6, 42) (by decide)
   clear hV hnf hi
   refine ⟨_, rfl, Or.inl ⟨by rfl, Or.inl ⟨(vals 6), wc, ?_, h6, (tr5_refl _ _)⟩⟩⟩
   (try simp only [putF, List.getD_cons_succ, List.getD_cons_zero, Go.Act.put, sTA, sCZ, sCS])
   go_simp
   try rfl
  ·have h7 : ∃ v1 v2 v3, (vals 7) = .tuple #[.agg #[v1, v2, v3], .bool true] ∧ OutV wc v1 v2 v3 m3.sent m3.deeds m3.e.w.rows := hV (7, 35) (by decide)
   clear hV hnf hi
   obtain ⟨v1, v2, v3, e7, ho⟩ := h7
   refine ⟨_, rfl, Or.inl ⟨by rfl, Or.inl ⟨.agg #[v1, v2, v3], wc, ?_, ⟨v1, v2, v3, rfl, ho⟩, (tr5_refl _ _)⟩⟩⟩
   (try simp only [putF, List.getD_cons_succ, List.getD_cons_zero, Go.Act.put, sTA, sCZ, sCS, e7])
   go_simp
   try rfl
  ·exact absurd (by decide) hnf
  ·clear hV hnf hi
   refine ⟨_, rfl, Or.inl ⟨by rfl, Or.inl ⟨.pointer (some ⟨wc.heap.size, 0, none⟩), (wc.alloc (.cells #[.slice none 0 0, .slice none 0 0, .slice none 0 0] 27)), ?_, ⟨_, rfl, hR.size, RowTo.whole wc _ _⟩, (tr5_of ((Below.refl _ _).alloc (nL _) _) hR.size)⟩⟩⟩
   (try simp only [putF, List.getD_cons_succ, List.getD_cons_zero, Go.Act.put, sTA, sCZ, sCS])
   go_simp
   try rfl
  ·exact absurd hi (by simp)
 case aof =>
  intro i hi vals wc hR hV
  obtain rfl := List.mem_singleton.1 hi
  ·have h7 : ∃ v1 v2 v3, (vals 7) = .tuple #[.agg #[v1, v2, v3], .bool true] ∧ OutV wc v1 v2 v3 m3.sent m3.deeds m3.e.w.rows := hV (7, 35) (by decide)
   clear hV hi
   obtain ⟨v1, v2, v3, e7, ho⟩ := h7
   refine ⟨_, .bool true, rfl, by rfl, fun w' => ?_, rfl⟩
   (try simp only [putF, List.getD_cons_succ, List.getD_cons_zero, Go.Act.put, sTA, sCZ, sCS, e7])
   go_simp
   try rfl
 case afi =>
  intro vals wf hR hV
  have hS := True.intro
  have f0 : (vals 0) = .agg #[.int .i64 md, .int .i64 sv] := hV 0 (by decide) (fun k hk => by simp at hk)
  have f1 : (vals 1) = .slice A0 al.length c0 := hV 1 (by decide) (fun k hk => by simp at hk)
  have f3 : (vals 3) = .slice E' l2.length e' := hV 3 (by decide) (fun k hk => by simp at hk)
  have f5 : ALst wf wf.heap.size (vals 5) (al ++ bl) := hV 5 (by decide) (fun k hk => by simp at hk)
  have f6 : ∃ v1 v2 v3, (vals 6) = .tuple #[.agg #[v1, v2, v3], .bool true] ∧ OutV wf v1 v2 v3 m3.sent m3.deeds m3.e.w.rows := hV 6 (by decide) (fun k hk => by simp at hk)
  have f7 : ∃ v1 v2 v3, (vals 7) = .tuple #[.agg #[v1, v2, v3], .bool true] ∧ OutV wf v1 v2 v3 m3.sent m3.deeds m3.e.w.rows := hV 7 (by decide) (fun k hk => by simp at hk)
  have f8 : ∃ v1 v2 v3, (vals 8) = .agg #[v1, v2, v3] ∧ OutV wf v1 v2 v3 m3.sent m3.deeds m3.e.w.rows := hV 8 (by decide) (fun k hk => by simp at hk)
  have f9 : (vals 9) = .bool true := hV 9 (by decide) (fun k hk => by simp at hk)
  have f10 : ∃ b, (vals 10) = .pointer (some ⟨b, 0, none⟩) ∧ W.heap.size ≤ b ∧ RowTo wf b 27 3 [.slice none 0 0, .slice none 0 0, .slice none 0 0] := hV 10 (by decide) (fun k hk => by simp at hk)
  clear hV
  obtain ⟨v1, v2, v3, e8, hO⟩ := f8
  obtain ⟨b1, e10, hlo, hY0⟩ := f10
  obtain ⟨C1, d1, rfl, _⟩ := hO.s.form
  obtain ⟨C2, d2, rfl, _⟩ := hO.d.form
  obtain ⟨C3, d3, rfl, _⟩ := hO.r.form
  (try simp only [putF, List.getD_cons_succ, List.getD_cons_zero, Go.Act.put, sTA, sCZ, sCS, e8, e10, f9])
  obtain ⟨r0, r1, r2⟩ := cells3 hY0
  have g0 := hY0.frozen 0
  have g1 := hY0.frozen 1
  have g2 := hY0.frozen 2
  have hk8 : ∀ b, b ≠ b1 → (((wf.setCell ⟨b1, 0, none⟩ (.slice C1 m3.sent.length d1)).setCell ⟨b1, 1, none⟩ (.slice C2 m3.deeds.length d2)).setCell ⟨b1, 2, none⟩ (.slice C3 m3.e.w.rows.length d3)).heap[b]? = wf.heap[b]? := fun b hb => by rw [Below.heap_setCell _ _ _ _ hb, Below.heap_setCell _ _ _ _ hb, Below.heap_setCell _ _ _ _ hb]
  have hz8 : (((wf.setCell ⟨b1, 0, none⟩ (.slice C1 m3.sent.length d1)).setCell ⟨b1, 1, none⟩ (.slice C2 m3.deeds.length d2)).setCell ⟨b1, 2, none⟩ (.slice C3 m3.e.w.rows.length d3)).heap.size = wf.heap.size := by simp [World.setCell]
  have HO8 := jD (hO.off (slOnly3 hY0) hz8 hk8)
  have HY8 := jD (hY0.set3 (.slice C1 m3.sent.length d1) (.slice C2 m3.deeds.length d2) (.slice C3 m3.e.w.rows.length d3))
  have HU8 := jD (bel_set3 hR hlo (.slice C1 m3.sent.length d1) (.slice C2 m3.deeds.length d2) (.slice C3 m3.e.w.rows.length d3))
  clear hk8 hz8 hO hY0 hR f0 f1 f3 f5 f6 f7 x0 x1 hxl y0 y1 y2 hyl z0 z1 z2 hzl
  refine wpAnyZ_one (i := 11) rfl rfl (by kernel_rfl) (fun K hK => ?_)
  (try simp only [gTA, gCZ, gCS])
  go_simp
  have hS2 := True.intro
  refine hK.out _ _ hS2 ?_
  clear hK K hS
  have hS := hS2
  clear hS2
  (try simp only [gTA, gCZ, gCS, Act.put, sTA, sCZ, sCS])
  obtain ⟨W8, HW8⟩ : ∃ u, Hid ((((wf.setCell ⟨b1, 0, none⟩ (.slice C1 m3.sent.length d1)).setCell ⟨b1, 1, none⟩ (.slice C2 m3.deeds.length d2)).setCell ⟨b1, 2, none⟩ (.slice C3 m3.e.w.rows.length d3)) = u) := ⟨_, jD rfl⟩
  rw [HW8.out] at HO8 HY8 HU8 ⊢
  clear HW8 r0 r1 r2 g0 g1 g2 hlo
  refine wpAnyZ_last rfl rfl (by kernel_rfl) (by kernel_rfl) (fun K hK => ?_)
  (try simp only [gTA, gCZ, gCS])
  go_simp
  refine hK.out _ _ ?_
  clear hK K
  (try simp only [gTA, gCZ, gCS, Act.put, sTA, sCZ, sCS])
  have HB8 := jD (bel_add' HB3.out HU8.out HB3.out.size)
  have HA8 := jD (H3.out.2.2.1.step HU8.out)
  have HE8 := jD (H3.out.1.step HU8.out)
  have HRA := jD (H3.out.2.2.2.below HU8.out H3.out.2.2.2.lt)
  have HRE := jD (H3.out.2.1.below HU8.out H3.out.2.1.lt)
  obtain ⟨x0, x1, x2⟩ := cells3 HRA.out
  have hxl := HRA.out.lt
  obtain ⟨y0, y1, y2⟩ := cells3 HRE.out
  have hyl := HRE.out.lt
  clear H3 HB3 HA3 HX3 HA1 HA2 HP1 HP3 HZ1 HZ2 HU8
  go_wp2_with fail
  refine (same_any _ _ _ _ _ _ m1.sent m1.deeds m1.e.w.rows W8 HA8.out HE8.out).mono ?_
  rintro e9 w9 ⟨rfl, hb9⟩
  have HOA := jD (show OutAt w w9 W8.heap.size w2.heap.size (.slice A1 m1.sent.length c1) (.slice A2 m1.deeds.length c2) (.slice A3 m1.e.w.rows.length c3) m1.sent m1.deeds m1.e.w.rows from (OutAt.mk HRA.out HA8.out.s HA8.out.d HA8.out.r (nL _) HB8.out).below hb9)
  have HOC := jD (show OutAt w w9 W8.heap.size b1 (.slice C1 m3.sent.length d1) (.slice C2 m3.deeds.length d2) (.slice C3 m3.e.w.rows.length d3) m3.sent m3.deeds m3.e.w.rows from (OutAt.mk HY8.out HO8.out.s HO8.out.d HO8.out.r (nL _) HB8.out).below hb9)
  clear x0 x1 x2 hxl y0 y1 y2 hyl hb9 HA8 HE8 HRA HRE HO8 HY8 HB8
  obtain ⟨x0, x1, x2⟩ := cells3 HOA.out.o
  have hxl := HOA.out.o.lt
  obtain ⟨y0, y1, y2⟩ := cells3 HOC.out.o
  have hyl := HOC.out.o.lt
  obtain ⟨mm, hmm⟩ := HPP.out.2
  have hlen : m3.deeds.length = m1.deeds.length + mm.length := by rw [hmm, List.length_append]
  have HLEN := jD (show m1.deeds.length ≤ m3.deeds.length by omega)
  have HMM := jD hmm
  have hdl : decide ((m3.deeds.length : Int) < (m1.deeds.length : Int)) = false := decide_eq_false (by omega)
  go_wp2_with fail
  go_loopw [73] (fun j wr => ∃ k : Nat, k ≤ m1.sent.length ∧ j = .int .i64 k ∧ Hid (OutAt w wr W8.heap.size w2.heap.size (.slice A1 m1.sent.length c1) (.slice A2 m1.deeds.length c2) (.slice A3 m1.e.w.rows.length c3) m1.sent m1.deeds m1.e.w.rows ∧ OutAt w wr W8.heap.size b1 (.slice C1 m3.sent.length d1) (.slice C2 m3.deeds.length d2) (.slice C3 m3.e.w.rows.length d3) m3.sent m3.deeds m3.e.w.rows)) (fun j _ => m1.sent.length - (intOf j).toNat)
  case atStart => exact ⟨0, by omega, rfl, HOA.out, HOC.out⟩
  case round =>
   obtain ⟨k, hk, rfl, HR⟩ := hrel
   clear HOA HOC x0 x1 x2 hxl y0 y1 y2 hyl
   obtain ⟨x0, x1, x2⟩ := cells3 HR.out.1.o
   have hxl := HR.out.1.o.lt
   obtain ⟨y0, y1, y2⟩ := cells3 HR.out.2.o
   have hyl := HR.out.2.o.lt
   by_cases hlt : k < m1.sent.length
   ·have hk6 : k < 6 := by have h1 := HS6.out; omega
    have hlt3 : k < m3.sent.length := by have h1 := HS6.out; have h2 := HS7.out; omega
    obtain ⟨q0, u0, rfl, hq0, c0k⟩ := HR.out.1.s.pt hlt
    obtain ⟨q1, u1, rfl, hq1, c1k⟩ := HR.out.2.s.pt hlt3
    have HLT := jD hlt
    have HPK := jD (show Lib.hasPrefix m3.sent[k].data.toList m1.sent[k].data.toList = true from by
     have h := HPP.out.1 k
     rw [List.getD_eq_getElem?_getD, List.getD_eq_getElem?_getD, List.getElem?_eq_getElem hlt, List.getElem?_eq_getElem hlt3] at h
     exact h)
    go_wp2_with fail
    refine wp_free 11 [] [] [] [(0, 76), (1, 77), (2, 78), (3, 79), (4, 80), (5, 81), (6, 82), (7, 83), (8, 84), (9, 85), (10, 86)] [[], [(0, 76)], [], [(1, 77), (2, 78)], [(3, 79)], [], [(5, 81)], [], [(6, 82), (7, 83)], [(8, 84)], [(4, 80), (9, 85)]] (fun i v w => match i with | 0 => v = .pointer (some ⟨b1, 0, none⟩) | 1 => v = .slice (some ⟨q1, u1, none⟩) m3.sent.length d1 | 2 => v = .int .i64 k | 3 => v = .pointer (some ⟨q1, u1 + k, none⟩) | 4 => v = .string m3.sent[k] | 5 => v = .pointer (some ⟨w2.heap.size, 0, none⟩) | 6 => v = .slice (some ⟨q0, u0, none⟩) m1.sent.length c1 | 7 => v = .int .i64 k | 8 => v = .pointer (some ⟨q0, u0 + k, none⟩) | 9 => v = .string m1.sent[k] | 10 => v = .bool true | _ => True) (fun _ w w' => w' = w) (fun wc => wc = wr.drew) 1 (by kernel_rfl) (by rfl) (by kernel_rfl) (fun _ _ _ _ _ h => h) rfl (fun _ _ => rfl) ?bmo (fun _ _ _ h hb => hb.trans h) ?bob ?bof ?bfi
    case bmo =>
     intro k i v w w' hk1 hk2 hk3 h hb
     subst hb
     exact h
    case bob =>
     intro i hi hnf vals wc hR hV
     rcases i with _ | _ | _ | _ | _ | _ | _ | _ | _ | _ | _ | i
     ·clear hV hnf hi
      subst hR
      refine ⟨_, rfl, Or.inl ⟨by rfl, Or.inl ⟨(.pointer (some ⟨b1, 0, none⟩)), wr.drew, ?_, rfl, rfl⟩⟩⟩
      (try simp only [putF, List.getD_cons_succ, List.getD_cons_zero, Go.Act.put, sTA, sCZ, sCS])
      go_simp
      try rfl
     ·have h0 : (vals 0) = .pointer (some ⟨b1, 0, none⟩) := hV (0, 76) (by decide)
      clear hV hnf hi
      subst hR
      refine ⟨_, rfl, Or.inl ⟨by rfl, Or.inl ⟨(.slice (some ⟨q1, u1, none⟩) m3.sent.length d1), wr.drew, ?_, rfl, rfl⟩⟩⟩
      (try simp only [putF, List.getD_cons_succ, List.getD_cons_zero, Go.Act.put, sTA, sCZ, sCS, h0])
      go_simp
      try rfl
     ·clear hV hnf hi
      subst hR
      refine ⟨_, rfl, Or.inl ⟨by rfl, Or.inl ⟨(.int .i64 k), wr.drew, ?_, rfl, rfl⟩⟩⟩
      (try simp only [putF, List.getD_cons_succ, List.getD_cons_zero, Go.Act.put, sTA, sCZ, sCS])
      go_simp
      try rfl
     ·have h1 : (vals 1) = .slice (some ⟨q1, u1, none⟩) m3.sent.length d1 := hV (1, 77) (by decide)
      have h2 : (vals 2) = .int .i64 k := hV (2, 78) (by decide)
      clear hV hnf hi
      subst hR
      refine ⟨_, rfl, Or.inl ⟨by rfl, Or.inl ⟨(.pointer (some ⟨q1, u1 + k, none⟩)), wr.drew, ?_, rfl, rfl⟩⟩⟩
      (try simp only [putF, List.getD_cons_succ, List.getD_cons_zero, Go.Act.put, sTA, sCZ, sCS, h1, h2])
      go_simp
      try rfl
     ·have h3 : (vals 3) = .pointer (some ⟨q1, u1 + k, none⟩) := hV (3, 79) (by decide)
      clear hV hnf hi
      subst hR
      refine ⟨_, rfl, Or.inl ⟨by rfl, Or.inl ⟨(.string m3.sent[k]), wr.drew, ?_, rfl, rfl⟩⟩⟩
      (try simp only [putF, List.getD_cons_succ, List.getD_cons_zero, Go.Act.put, sTA, sCZ, sCS, h3])
      go_simp
      try rfl
     ·clear hV hnf hi
      subst hR
      refine ⟨_, rfl, Or.inl ⟨by rfl, Or.inl ⟨(.pointer (some ⟨w2.heap.size, 0, none⟩)), wr.drew, ?_, rfl, rfl⟩⟩⟩
      (try simp only [putF, List.getD_cons_succ, List.getD_cons_zero, Go.Act.put, sTA, sCZ, sCS])
      go_simp
      try rfl
     ·have h5 : (vals 5) = .pointer (some ⟨w2.heap.size, 0, none⟩) := hV (5, 81) (by decide)
      clear hV hnf hi
      subst hR
      refine ⟨_, rfl, Or.inl ⟨by rfl, Or.inl ⟨(.slice (some ⟨q0, u0, none⟩) m1.sent.length c1), wr.drew, ?_, rfl, rfl⟩⟩⟩
      (try simp only [putF, List.getD_cons_succ, List.getD_cons_zero, Go.Act.put, sTA, sCZ, sCS, h5])
      go_simp
      try rfl
     ·clear hV hnf hi
      subst hR
      refine ⟨_, rfl, Or.inl ⟨by rfl, Or.inl ⟨(.int .i64 k), wr.drew, ?_, rfl, rfl⟩⟩⟩
      (try simp only [putF, List.getD_cons_succ, List.getD_cons_zero, Go.Act.put, sTA, sCZ, sCS])
      go_simp
      try rfl
     ·have h6 : (vals 6) = .slice (some ⟨q0, u0, none⟩) m1.sent.length c1 := hV (6, 82) (by decide)
      have h7 : (vals 7) = .int .i64 k := hV (7, 83) (by decide)
      clear hV hnf hi
      subst hR
      refine ⟨_, rfl, Or.inl ⟨by rfl, Or.inl ⟨(.pointer (some ⟨q0, u0 + k, none⟩)), wr.drew, ?_, rfl, rfl⟩⟩⟩
      (try simp only [putF, List.getD_cons_succ, List.getD_cons_zero, Go.Act.put, sTA, sCZ, sCS, h6, h7])
      go_simp
      try rfl
     ·have h8 : (vals 8) = .pointer (some ⟨q0, u0 + k, none⟩) := hV (8, 84) (by decide)
      clear hV hnf hi
      subst hR
      refine ⟨_, rfl, Or.inl ⟨by rfl, Or.inl ⟨(.string m1.sent[k]), wr.drew, ?_, rfl, rfl⟩⟩⟩
      (try simp only [putF, List.getD_cons_succ, List.getD_cons_zero, Go.Act.put, sTA, sCZ, sCS, h8])
      go_simp
      try rfl
     ·have h4 : (vals 4) = .string m3.sent[k] := hV (4, 80) (by decide)
      have h9 : (vals 9) = .string m1.sent[k] := hV (9, 85) (by decide)
      clear hV hnf hi
      refine ⟨_, rfl, Or.inl ⟨by rfl, Or.inr ⟨27, #[.string m3.sent[k], .string m1.sent[k]], ?_, ?_⟩⟩⟩
      ·(try simp only [putF, List.getD_cons_succ, List.getD_cons_zero, Go.Act.put, sTA, sCZ, sCS, h4, h9])
       go_simp
       try rfl
      ·refine (prefS_any _ _ wc).mono ?_
       rintro e w' ⟨rfl, rfl⟩
       exact ⟨_, rfl, by show Value.bool _ = Value.bool true; rw [HPK.out], rfl⟩
     ·exact absurd hi (by simp)
    case bof =>
     intro i hi; cases hi
    case bfi =>
     intro vals wf hR hV
     have hS := True.intro
     have f0 : (vals 0) = .pointer (some ⟨b1, 0, none⟩) := hV 0 (by decide) (fun k hk => by simp at hk)
     have f1 : (vals 1) = .slice (some ⟨q1, u1, none⟩) m3.sent.length d1 := hV 1 (by decide) (fun k hk => by simp at hk)
     have f2 : (vals 2) = .int .i64 k := hV 2 (by decide) (fun k hk => by simp at hk)
     have f3 : (vals 3) = .pointer (some ⟨q1, u1 + k, none⟩) := hV 3 (by decide) (fun k hk => by simp at hk)
     have f4 : (vals 4) = .string m3.sent[k] := hV 4 (by decide) (fun k hk => by simp at hk)
     have f5 : (vals 5) = .pointer (some ⟨w2.heap.size, 0, none⟩) := hV 5 (by decide) (fun k hk => by simp at hk)
     have f6 : (vals 6) = .slice (some ⟨q0, u0, none⟩) m1.sent.length c1 := hV 6 (by decide) (fun k hk => by simp at hk)
     have f7 : (vals 7) = .int .i64 k := hV 7 (by decide) (fun k hk => by simp at hk)
     have f8 : (vals 8) = .pointer (some ⟨q0, u0 + k, none⟩) := hV 8 (by decide) (fun k hk => by simp at hk)
     have f9 : (vals 9) = .string m1.sent[k] := hV 9 (by decide) (fun k hk => by simp at hk)
     have f10 : (vals 10) = .bool true := hV 10 (by decide) (fun k hk => by simp at hk)
     clear hV
     have F10 := f10
     have hRw : wf = wr.drew := hR
     subst hRw
     (try simp only [putF, List.getD_cons_succ, List.getD_cons_zero, Go.Act.put, sTA, sCZ, sCS, F10])
     refine wpAnyZ_last rfl rfl (by kernel_rfl) (by kernel_rfl) (fun K hK => ?_)
     (try simp only [gTA, gCZ, gCS])
     go_simp
     refine hK.out _ _ ?_
     clear hK K
     (try simp only [gTA, gCZ, gCS, Act.put, sTA, sCZ, sCS])
     go_wp2
     go_roundw
     case rel => exact ⟨k + 1, Nat.succ_le_of_lt HLT.out, by go_num, HR.out.1.below (Below.refl _ _).drew, HR.out.2.below (Below.refl _ _).drew⟩
     case measure => have := HLT.out; simp [intOf]; omega
   ·obtain rfl : k = m1.sent.length := by omega
    have hdn : m1.deeds.length ≤ d2 := by obtain ⟨_, _, e, h⟩ := HR.out.2.d.form; injection e with _ _ e; omega
    have HBB := jD HR.out.1.bel
    have HDD := jD (show m3.deeds.take m1.deeds.length = m1.deeds by rw [HMM.out, List.take_left])
    have hdn2 : m1.deeds.length ≤ m3.deeds.length := by omega
    clear hlt
    go_wp2_with fail
    refine wp_free 9 [] [] [] [(0, 89), (1, 90), (2, 91), (3, 92), (4, 93), (5, 94), (6, 95), (7, 96), (8, 97)] [[], [(0, 89)], [], [(2, 91)], [], [(4, 93)], [(5, 94)], [(3, 92), (6, 95)], [(1, 90), (7, 96)]] (fun i v w => match i with | 0 => v = .pointer (some ⟨w2.heap.size, 1, none⟩) | 1 => v = .slice A2 m1.deeds.length c2 | 2 => v = .pointer (some ⟨b1, 1, none⟩) | 3 => v = .slice C2 m3.deeds.length d2 | 4 => v = .pointer (some ⟨w2.heap.size, 1, none⟩) | 5 => v = .slice A2 m1.deeds.length c2 | 6 => v = .int .i64 m1.deeds.length | 7 => v = .slice C2 m1.deeds.length d2 | 8 => v = .bool true | _ => True) (fun _ w w' => Below w.heap.size w w') (fun wc => OutAt w wc W8.heap.size w2.heap.size (.slice A1 m1.sent.length c1) (.slice A2 m1.deeds.length c2) (.slice A3 m1.e.w.rows.length c3) m1.sent m1.deeds m1.e.w.rows ∧ OutAt w wc W8.heap.size b1 (.slice C1 m3.sent.length d1) (.slice C2 m3.deeds.length d2) (.slice C3 m3.e.w.rows.length d3) m3.sent m3.deeds m3.e.w.rows) 1 (by kernel_rfl) (by rfl) (by kernel_rfl) (fun _ _ _ _ _ h => h) ⟨HR.out.1.below (Below.refl _ _).drew, HR.out.2.below (Below.refl _ _).drew⟩ (fun _ _ => Below.refl _ _) ?cmo (fun _ _ _ h hb => ⟨h.1.below hb, h.2.below hb⟩) ?cob ?cof ?cfi
    case cmo =>
     intro k i v w w' hk1 hk2 hk3 h hb
     exact h
    case cob =>
     intro i hi hnf vals wc hR hV
     rcases i with _ | _ | _ | _ | _ | _ | _ | _ | _ | i
     ·clear hV hnf hi
      refine ⟨_, rfl, Or.inl ⟨by rfl, Or.inl ⟨(.pointer (some ⟨w2.heap.size, 1, none⟩)), wc, ?_, rfl, (Below.refl _ _)⟩⟩⟩
      (try simp only [putF, List.getD_cons_succ, List.getD_cons_zero, Go.Act.put, sTA, sCZ, sCS])
      go_simp
      try rfl
     ·have h0 : (vals 0) = .pointer (some ⟨w2.heap.size, 1, none⟩) := hV (0, 89) (by decide)
      clear hV hnf hi
      obtain ⟨p0, p1, p2⟩ := cells3 hR.1.o
      have pl := hR.1.o.lt
      refine ⟨_, rfl, Or.inl ⟨by rfl, Or.inl ⟨(.slice A2 m1.deeds.length c2), wc, ?_, rfl, (Below.refl _ _)⟩⟩⟩
      (try simp only [putF, List.getD_cons_succ, List.getD_cons_zero, Go.Act.put, sTA, sCZ, sCS, h0])
      go_simp
      try rfl
     ·clear hV hnf hi
      refine ⟨_, rfl, Or.inl ⟨by rfl, Or.inl ⟨(.pointer (some ⟨b1, 1, none⟩)), wc, ?_, rfl, (Below.refl _ _)⟩⟩⟩
      (try simp only [putF, List.getD_cons_succ, List.getD_cons_zero, Go.Act.put, sTA, sCZ, sCS])
      go_simp
      try rfl
     ·have h2 : (vals 2) = .pointer (some ⟨b1, 1, none⟩) := hV (2, 91) (by decide)
      clear hV hnf hi
      obtain ⟨p0, p1, p2⟩ := cells3 hR.2.o
      have pl := hR.2.o.lt
      refine ⟨_, rfl, Or.inl ⟨by rfl, Or.inl ⟨(.slice C2 m3.deeds.length d2), wc, ?_, rfl, (Below.refl _ _)⟩⟩⟩
      (try simp only [putF, List.getD_cons_succ, List.getD_cons_zero, Go.Act.put, sTA, sCZ, sCS, h2])
      go_simp
      try rfl
     ·clear hV hnf hi
      refine ⟨_, rfl, Or.inl ⟨by rfl, Or.inl ⟨(.pointer (some ⟨w2.heap.size, 1, none⟩)), wc, ?_, rfl, (Below.refl _ _)⟩⟩⟩
      (try simp only [putF, List.getD_cons_succ, List.getD_cons_zero, Go.Act.put, sTA, sCZ, sCS])
      go_simp
      try rfl
     ·have h4 : (vals 4) = .pointer (some ⟨w2.heap.size, 1, none⟩) := hV (4, 93) (by decide)
      clear hV hnf hi
      obtain ⟨p0, p1, p2⟩ := cells3 hR.1.o
      have pl := hR.1.o.lt
      refine ⟨_, rfl, Or.inl ⟨by rfl, Or.inl ⟨(.slice A2 m1.deeds.length c2), wc, ?_, rfl, (Below.refl _ _)⟩⟩⟩
      (try simp only [putF, List.getD_cons_succ, List.getD_cons_zero, Go.Act.put, sTA, sCZ, sCS, h4])
      go_simp
      try rfl
     ·have h5 : (vals 5) = .slice A2 m1.deeds.length c2 := hV (5, 94) (by decide)
      clear hV hnf hi
      refine ⟨_, rfl, Or.inl ⟨by rfl, Or.inl ⟨(.int .i64 m1.deeds.length), wc, ?_, rfl, (Below.refl _ _)⟩⟩⟩
      (try simp only [putF, List.getD_cons_succ, List.getD_cons_zero, Go.Act.put, sTA, sCZ, sCS, h5])
      go_simp
      try rfl
     ·have h3 : (vals 3) = .slice C2 m3.deeds.length d2 := hV (3, 92) (by decide)
      have h6 : (vals 6) = .int .i64 m1.deeds.length := hV (6, 95) (by decide)
      clear hV hnf hi
      refine ⟨_, rfl, Or.inl ⟨by rfl, Or.inl ⟨(.slice C2 m1.deeds.length d2), wc, ?_, rfl, (Below.refl _ _)⟩⟩⟩
      (try simp only [putF, List.getD_cons_succ, List.getD_cons_zero, Go.Act.put, sTA, sCZ, sCS, h3, h6])
      go_simp
      try rfl
     ·have h1 : (vals 1) = .slice A2 m1.deeds.length c2 := hV (1, 90) (by decide)
      have h7 : (vals 7) = .slice C2 m1.deeds.length d2 := hV (7, 96) (by decide)
      clear hV hnf hi
      refine ⟨_, rfl, Or.inl ⟨by rfl, Or.inr ⟨28, #[.slice A2 m1.deeds.length c2, .slice C2 m1.deeds.length d2], ?_, ?_⟩⟩⟩
      ·(try simp only [putF, List.getD_cons_succ, List.getD_cons_zero, Go.Act.put, sTA, sCZ, sCS, h1, h7])
       go_simp
       try rfl
      ·refine (equalD_same _ _ m1.deeds wc W8.heap.size hR.1.d (by have h := hR.2.d.take rfl hdn2; rw [HDD.out] at h; exact h)).mono ?_
       rintro e w' ⟨rfl, n, rfl⟩
       exact ⟨_, rfl, rfl, below_drewN (Below.refl _ _) n⟩
     ·exact absurd hi (by simp)
    case cof =>
     intro i hi; cases hi
    case cfi =>
     intro vals wf hR hV
     have hS := True.intro
     have f0 : (vals 0) = .pointer (some ⟨w2.heap.size, 1, none⟩) := hV 0 (by decide) (fun k hk => by simp at hk)
     have f1 : (vals 1) = .slice A2 m1.deeds.length c2 := hV 1 (by decide) (fun k hk => by simp at hk)
     have f2 : (vals 2) = .pointer (some ⟨b1, 1, none⟩) := hV 2 (by decide) (fun k hk => by simp at hk)
     have f3 : (vals 3) = .slice C2 m3.deeds.length d2 := hV 3 (by decide) (fun k hk => by simp at hk)
     have f4 : (vals 4) = .pointer (some ⟨w2.heap.size, 1, none⟩) := hV 4 (by decide) (fun k hk => by simp at hk)
     have f5 : (vals 5) = .slice A2 m1.deeds.length c2 := hV 5 (by decide) (fun k hk => by simp at hk)
     have f6 : (vals 6) = .int .i64 m1.deeds.length := hV 6 (by decide) (fun k hk => by simp at hk)
     have f7 : (vals 7) = .slice C2 m1.deeds.length d2 := hV 7 (by decide) (fun k hk => by simp at hk)
     have f8 : (vals 8) = .bool true := hV 8 (by decide) (fun k hk => by simp at hk)
     clear hV
     have F8 := f8
     (try simp only [putF, List.getD_cons_succ, List.getD_cons_zero, Go.Act.put, sTA, sCZ, sCS, F8])
     refine wpAnyZ_last rfl rfl (by kernel_rfl) (by kernel_rfl) (fun K hK => ?_)
     (try simp only [gTA, gCZ, gCS])
     go_simp
     refine hK.out _ _ ?_
     clear hK K
     (try simp only [gTA, gCZ, gCS, Act.put, sTA, sCZ, sCS])
     go_wp2
     go_ret
     exact ⟨rfl, hR.1.bel⟩
end Go.Proofs.YtpbaobmegomfpacGreatDoor
