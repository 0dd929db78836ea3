/-
  Texts of the proof, one behind the other: WAloneSame.
-/
import Derived.Test.YtpbaobmegomfpabGreatDoorTAloneSame1
import Derived.Test.YtpbaobmegomfpabGreatDoorTAloneSame2
import Derived.Test.YtpbaobmegomfpabGreatDoorM26
set_option linter.unusedVariables false
set_option linter.unusedSimpArgs false
set_option maxRecDepth 100000
open List renaming getElem_toArray → gTA, getElem_cons_zero → gCZ, getElem_cons_succ → gCS, setIfInBounds_toArray → sTA, set_cons_zero → sCZ, set_cons_succ → sCS
open Go.Lib renaming hid → jD
open Nat renaming le_refl → nL
namespace Go.Proofs.YtpbaobmegomfpabGreatDoor
open Go.RowKit
theorem aloneSame.laidFacts {W : World} (h : laidMetH Tryz.prog Rows.aloneSameRow.laid W) : Tabs W W.heap.size :=
 tabs_of (words_of h (by simp [Rows.aloneSameRow, Rows.laid_tillerman_say_words, List.range, List.range.loop, wordL])) (leads_of h (by simp [Rows.aloneSameRow, Rows.laid_tillerman_say_leads, List.range, List.range.loop, leadL]))
set_option maxHeartbeats 8000000 in
theorem walk_AloneSame (v : Value) (l : List Raw) (b : Bool) (srv : Int) (w : World) (hl : RLst w w.heap.size v l) (hs : (Lit.int .i64 srv).wf = true) (hT : Tabs w w.heap.size) :
  Calls Tryz.prog 4 #[v, .bool b, .int .i64 srv] w fun e w' => e = .returned (.bool true) ∧ Below w.heap.size w w' := by
 have hsb := i64_bd hs
 have hsr := pickI_bd srv (m := 4) (by omega)
 have hcr := pickI_bd srv (m := 6) (by omega)
 obtain ⟨c, hc⟩ : ∃ c : Nat, pickI srv 6 = c := ⟨(pickI srv 6).toNat, by omega⟩
 obtain ⟨n, hn⟩ : ∃ n : Nat, 1 + pickI srv 4 = n := ⟨(1 + pickI srv 4).toNat, by omega⟩
 have hc6 : c < 6 := by omega
 have HC6 := jD hc6
 have HN := jD (show 1 ≤ n ∧ n ≤ 4 by omega)
 have HS : Hid (∀ wc : World, Calls Tryz.prog 10 #[.int .i64 0, .int .i64 srv] wc fun e w' => e = .returned (.agg #[.int .i64 1, .int .i64 n]) ∧ Below wc.heap.size wc w') := jD (fun wc => by rw [← hn]; exact setup_any 0 srv wc (by omega) (by omega) hsb.1 hsb.2)
 have HP : Hid (∀ wc : World, Calls Tryz.prog 14 #[.int .i64 srv, .int .i64 6] wc fun e w' => e = .returned (.int .i64 c) ∧ wc = w') := jD (fun wc => by rw [← hc]; exact picked_any srv 6 wc hsb.1 hsb.2 (by omega) (by omega))
 have HL := jD hl
 have HT := jD hT
 have hmk : ∀ w : World, (Instr.makeSlice 37 (.int .i64 1) (.int .i64 1)).run Tryz.prog w = .ok (.slice (some ⟨w.heap.size, 0, none⟩) 1 1) (w.alloc (.cells (madeCells #[.int .i64 0, .slice none 0 0, .slice none 0 0, .slice none 0 0, .slice none 0 0] (1 * 5)) 115)) := fun w => make_sess 1 (by omega) w
 obtain ⟨E, e, rfl, he⟩ := hl.form
 have hby := hl.bytes
 clear hl hs hT hsb hsr hcr hc hn hc6
 go_enter Tryz.func4, Tryz.ntmps4
 go_wp2_with fail
 refine (HS.out _).mono ?_
 rintro e0 w0 ⟨rfl, hb0⟩
 have HB0 := jD hb0
 clear hb0 HS
 cases b
 ·have HA0 : Hid (AlAt w (((w0.alloc (.cells #[.int .i64 1, .int .i64 n] 23)).alloc (.cells (madeCells #[.int .i64 0, .slice none 0 0, .slice none 0 0, .slice none 0 0, .slice none 0 0] (1 * 5)) 115)).alloc (.cells #[.slice none 0 0, .slice (some ⟨w0.heap.size + 1, 0, none⟩) 1 1] 39)) w0.heap.size (w0.heap.size + 1 + 1) (w0.heap.size + 1 + 1 + 1) 1 n (.slice none 0 0) (.slice none 0 0) (.slice none 0 0) (.slice (some ⟨w0.heap.size + 1, 0, none⟩) 1 1) (alA c l 0) (alT l 0) (alW l 0)) := by
   have a1 := (Below.refl w0.heap.size w0).alloc (nL _) (.cells #[.int .i64 1, .int .i64 n] 23)
   have a2 := (a1.alloc (by simp) (.cells (madeCells #[.int .i64 0, .slice none 0 0, .slice none 0 0, .slice none 0 0, .slice none 0 0] (1 * 5)) 115)).alloc (by simp; omega) (.cells #[.slice none 0 0, .slice (some ⟨w0.heap.size + 1, 0, none⟩) 1 1] 39)
   have y1 := ((RowTo.whole w0 #[.int .i64 1, .int .i64 n] 23).alloc (.cells (madeCells #[.int .i64 0, .slice none 0 0, .slice none 0 0, .slice none 0 0, .slice none 0 0] (1 * 5)) 115)).alloc (.cells #[.slice none 0 0, .slice (some ⟨w0.heap.size + 1, 0, none⟩) 1 1] 39)
   have y2 := RowTo.whole ((w0.alloc (.cells #[.int .i64 1, .int .i64 n] 23)).alloc (.cells (madeCells #[.int .i64 0, .slice none 0 0, .slice none 0 0, .slice none 0 0, .slice none 0 0] (1 * 5)) 115)) #[.slice none 0 0, .slice (some ⟨w0.heap.size + 1, 0, none⟩) 1 1] 39
   have y3 := two_start (w0.alloc (.cells #[.int .i64 1, .int .i64 n] 23)) (w0.heap.size + 1 + 1 + 1)
   simp only [World.size_alloc] at y2 y3
   have := HB0.out.size
   exact jD ⟨y1, y2, y3, bel_add' HB0.out a2 HB0.out.size, by omega, by omega, by simp, by omega, by omega, by omega⟩
  go_wp2
  clear hmk
  go_loopw [9, 10, 11] (fun a t j wr => ∃ k : Nat, k ≤ l.length ∧ k ≤ 40 ∧ j = .int .i64 k ∧ Hid (∃ r s, AlAt w wr w0.heap.size (w0.heap.size + 1 + 1) (w0.heap.size + 1 + 1 + 1) 1 n a t r s (alA c l k) (alT l k) (alW l k))) (fun _ _ j _ => l.length - (intOf j).toNat)
  case atStart => exact ⟨0, by omega, by omega, rfl, _, _, HA0.out⟩
  case round =>
   obtain ⟨k, hk, hk40, rfl, HR⟩ := hrel
   clear HA0
   obtain ⟨r, s, hR⟩ := HR.out
   clear HR
   by_cases hlt : k < l.length ∧ k < 40
   ·obtain ⟨hlt, hlt40⟩ := hlt
    have HS1 := jD (alA_step (c := c) hlt)
    have HS2 := jD (alT_step hlt)
    have HS3 := jD (alW_step hlt)
    have HOK := jD (alW_ok l k)
    have hla : (alA c l k).length = k := alA_len hk
    have hlt' : (alT l k).length = k := alT_len hk
    generalize alA c l k = al at *
    generalize alT l k = tl at *
    generalize alW l k = Wk at *
    have hwf := HL.out.wf l[k] (List.getElem_mem hlt)
    obtain ⟨bb, off, rfl, hb, l0, l1, l2, l3⟩ := HL.out.pt hlt
    generalize hx : l[k] = x at *
    clear hx
    have bl := hR.bel
    have d0 := (bl.cell (p := ⟨bb, off + k * 4, none⟩) hb).trans l0
    have d1 := (bl.cell (p := ⟨bb, off + k * 4 + 1, none⟩) hb).trans l1
    have d2 := (bl.cell (p := ⟨bb, off + k * 4 + 2, none⟩) hb).trans l2
    have d3 := (bl.cell (p := ⟨bb, off + k * 4 + 3, none⟩) hb).trans l3
    have hbw : bb < wr.heap.size := Nat.lt_of_lt_of_le hb bl.size
    obtain ⟨v1, v2, v3, v4⟩ := hwf
    obtain ⟨⟨Aa, ca, ea⟩, ⟨At, ct, et⟩, ⟨As, cs, es⟩, Ar, cr, er⟩ := hR.two.shape
    rw [hla] at ea
    rw [hlt'] at et
    subst ea et es er
    have HT2 : Hid (∀ wc : World, Calls Tryz.prog 11 #[.agg #[.int .i64 x.kd, .int .i64 x.a, .int .i64 x.b, .int .i64 x.c]] wc fun e w' => e = .returned (.agg #[.int .i64 (reqR x).k, .string (reqR x).key, .string (reqR x).val]) ∧ Below wc.heap.size wc w') := jD fun wc => stmt_any x.kd x.a x.b x.c wc v1 v2 v3 v4
    have HG := jD (reqR_ok x)
    generalize reqR x = q at *
    obtain ⟨R, HQ⟩ : ∃ R, Hid (doR Wk 0 q = R) := ⟨_, jD rfl⟩
    obtain ⟨st, HST⟩ : ∃ st, Hid ((R.1.at 0).st = st) := ⟨_, jD rfl⟩
    rw [HQ.out, HST.out] at HS2
    rw [HQ.out] at HS3
    have HAN : Hid (AnsOk R.2 ∧ 0 ≤ st ∧ st ≤ 2) := jD (by
     have h1 := doR_ok HOK.out.1 (i := 0) (by rw [HOK.out.2]; omega) HG.out
     have h2 := st_of h1.1 (i := 0) (by rw [h1.2, HOK.out.2]; omega)
     have h3 := doM_ans HOK.out.1 (i := 0) (by rw [HOK.out.2]; omega) q.k q.key q.val
     have h4 : doM Wk 0 q.k q.key q.val = R := HQ.out
     rw [HQ.out, HST.out] at h2
     rw [h4] at h3
     exact ⟨h3, h2⟩)
    have HRR := jD hR
    have HLT := jD (And.intro hlt hlt40)
    have HLL := jD (And.intro hla hlt')
    obtain ⟨x0, x1⟩ := cells2 hR.x
    have hXl := hR.x.lt
    clear hR bl l0 l1 l2 l3 v1 v2 v3 v4 hk hk40 hla hlt'
    go_wp2_with fail
    refine (HT2.out _).mono ?_
    rintro e1 w1 ⟨rfl, hb1⟩
    have n1 := ((Below.refl w1.heap.size w1).alloc (nL _) (.cells #[.int .i64 q.k, .string q.key, .string q.val] 41)).alloc (by simp) (.cells #[.int .i64 q.k, .string q.key, .string q.val] 41)
    have X9 := (RowTo.whole w1 #[.int .i64 q.k, .string q.key, .string q.val] 41).alloc (.cells #[.int .i64 q.k, .string q.key, .string q.val] 41)
    have S9 := RowTo.whole (w1.alloc (.cells #[.int .i64 q.k, .string q.key, .string q.val] 41)) #[.int .i64 q.k, .string q.key, .string q.val] 41
    rw [World.size_alloc] at S9
    have hX1 := HRR.out.x.below hb1 HRR.out.x.lt
    have hx1 := hX1.below n1 hX1.lt
    have hU1 := HRR.out.u.below hb1 HRR.out.u.lt
    have hu1 := hU1.below n1 hU1.lt
    have hB1 := bel_add' (bel_add' HRR.out.bel hb1 HRR.out.bel.size) n1 (bel_add' HRR.out.bel hb1 HRR.out.bel.size).size
    obtain ⟨Q, hQ, hfin⟩ := ((HRR.out.two.below hb1).below n1).opened
    have hz1 : w0.heap.size + 1 + 1 + 1 ≤ w1.heap.size := Nat.le_trans HRR.out.hB hb1.size
    have HSD := jD (said_new1 (t := 41) (k := q.k) (key := q.key) (val := q.val) HQ.out HST.out HOK.out.1 (i := 0) (by rw [HOK.out.2]; omega) HG.out _ _ _ _ hQ S9 (HT.out.below hB1).wo)
    have HF := jD (And.intro X9 (And.intro hx1 (And.intro hu1 (And.intro hB1 hfin))))
    obtain ⟨x0, x1⟩ := cells2 hX1
    have hXl := hX1.lt
    clear n1 X9 S9 hU1 hx1 hu1 hB1 hQ hfin hX1 hb1 d0 d1 d2 d3 HT2
    go_wp2_with fail
    refine HSD.out.mono ?_
    rintro e2 w2 ⟨D2, d2, A2, c2, rfl, hw2, hb2⟩
    have hz2 := hb2.size
    simp only [World.size_alloc] at hz2
    have n2 := ((Below.refl w2.heap.size w2).alloc (nL _) (.cells #[.slice D2 R.1.rows.length d2, .slice A2 R.1.ss.length c2] 39)).alloc (by simp) (.cells #[.int .i64 R.2.kind, .string R.2.text, .int .i64 st] 46)
    have N2 := (RowTo.whole w2 #[.slice D2 R.1.rows.length d2, .slice A2 R.1.ss.length c2] 39).alloc (.cells #[.int .i64 R.2.kind, .string R.2.text, .int .i64 st] 46)
    have two2 := (HF.out.2.2.2.2 w2 _ _ _ hb2 hw2).below n2
    have hX9 := HF.out.1.below hb2 HF.out.1.lt
    have hX2 := HF.out.2.1.below hb2 HF.out.2.1.lt
    have hU2 := HF.out.2.2.1.below hb2 HF.out.2.2.1.lt
    have hB2 := bel_add' HF.out.2.2.2.1 hb2 HF.out.2.2.2.1.size
    have HF2 := jD (And.intro two2 (And.intro N2 (And.intro (hX9.below n2 hX9.lt) (And.intro (hX2.below n2 hX2.lt) (And.intro (hU2.below n2 hU2.lt) (bel_add' hB2 n2 hB2.size))))))
    clear HSD HF n2 N2 two2 hX9 hX2 hU2 hB2 hw2 hb2 x0 x1 hXl
    have HTL := jD (tell_one R.2 st _ ((HT.out.below HF2.out.2.2.2.2.2).le) HAN.out)
    go_wp2_with fail
    refine HTL.out.mono ?_
    rintro e3 w3 ⟨rfl, hb3⟩
    obtain ⟨f1, f2, f3, f4, f5, f6⟩ := HF2.out
    have hz3 := hb3.size
    simp only [World.size_alloc] at hz3
    have g2 := f2.below hb3 f2.lt
    have g3 := f3.below hb3 f3.lt
    have g4 := f4.below hb3 f4.lt
    have g5 := f5.below hb3 f5.lt
    have g6 := bel_add' f6 hb3 f6.size
    have two4 := (f1.below hb3).set2 g4 HRR.out.xB (.slice D2 R.1.rows.length d2) (.slice A2 R.1.ss.length c2)
    obtain ⟨n0, n1⟩ := cells2 g2
    have hNl := g2.lt
    obtain ⟨x0, x1⟩ := cells2 g4
    have hXl := g4.lt
    have p0 := g4.frozen 0
    have p1 := g4.frozen 1
    have hzw : ((w3.setCell ⟨(w0.heap.size + 1 + 1), 0, none⟩ (.slice D2 R.1.rows.length d2)).setCell ⟨(w0.heap.size + 1 + 1), 1, none⟩ (.slice A2 R.1.ss.length c2)).heap.size = w3.heap.size := by simp [World.setCell]
    obtain ⟨tt, w5, hrun, two5, hb5, hty⟩ := two4.appT (tellT R.2.kind.toNat st.toNat R.2.text) (by rw [HLL.out.2]; have := HLT.out.2; omega) (by rw [hzw]; omega)
    have k3 := hty _ _ _ _ ((g3.oth2 (R := (w0.heap.size + 1 + 1)) (by omega) (.slice D2 R.1.rows.length d2) (.slice A2 R.1.ss.length c2))) (by decide)
    have j3 := (g3.oth2 (R := (w0.heap.size + 1 + 1)) (by omega) (.slice D2 R.1.rows.length d2) (.slice A2 R.1.ss.length c2)).same k3
    have j4 := (g4.set2 (.slice D2 R.1.rows.length d2) (.slice A2 R.1.ss.length c2)).below hb5 HRR.out.xB
    have j5 := (g5.oth2 (R := (w0.heap.size + 1 + 1)) (by omega) (.slice D2 R.1.rows.length d2) (.slice A2 R.1.ss.length c2)).below hb5 HRR.out.uB
    have j6 := (bel_set2 g6 HRR.out.wX (.slice D2 R.1.rows.length d2) (.slice A2 R.1.ss.length c2)).trans (hb5.mono HRR.out.wB)
    have hz5 := hb5.size
    rw [hzw] at hz5 hrun
    have HF5 := jD (And.intro two5 (And.intro j3 (And.intro j4 (And.intro j5 j6))))
    have HX := jD (And.intro HRR.out.uB (And.intro HRR.out.xB (And.intro HRR.out.wX (And.intro HRR.out.wB HRR.out.ne))))
    obtain ⟨_, ⟨At2, ct2, et2⟩, _, _⟩ := two5.shape
    rw [List.length_append, HLL.out.2] at et2
    subst et2
    clear HF2 HTL f1 f2 f3 f4 f5 f6 g2 g3 g4 g5 g6 hb3 two4 two5 hty hb5 k3 j3 j4 j5 j6 hzw HRR
    go_wp2_with (at_builtin; refine Lib.wpList_append_run _ rfl _ _ _ _ rfl _ _ rfl rfl _ _ hrun ?_)
    clear hrun n0 n1 hNl x0 x1 hXl p0 p1
    obtain ⟨y0, y1, y2⟩ := cells3 HF5.out.2.1
    have hyl := HF5.out.2.1.lt
    refine wp_free 8 [] [] [] [(0, 67), (1, 68), (2, 69), (3, 70), (4, 71), (5, 72), (6, 73)] [[], [], [(1, 68)], [], [(3, 70)], [(2, 69), (4, 71)], [(5, 72)]] (fun i v w => match i with | 0 => v = .slice Aa k ca | 1 => v = .int .i64 srv | 2 => v = .int .i64 c | 3 => v = .agg #[.int .i64 q.k, .string q.key, .string q.val] | 4 => v = .string (msg 81 (msgR q)) | 5 => v = .agg #[.int .i64 1, .int .i64 c, .string (msg 81 (msgR q))] | 6 => ∃ g, v = .slice (some ⟨g, 0, none⟩) 1 1 ∧ RowTo w g 54 3 [.int .i64 1, .int .i64 c, .string (msg 81 (msgR q))] | _ => True) (fun _ w w' => Below w.heap.size w w') (fun wc => Below w5.heap.size w5 wc) 2 (by kernel_rfl) (by rfl) (by kernel_rfl) (fun _ _ _ _ _ h => h) (Below.refl _ _).drew (fun _ _ => Below.refl _ _) ?amo (fun k w w' h hb => bel_trans h hb) ?aob ?aof ?afi
    case amo =>
     intro k i v w w' hk1 hk2 hk3 h hb
     rcases i with _ | _ | _ | _ | _ | _ | _ | i
     ·exact h
     ·exact h
     ·exact h
     ·exact h
     ·exact h
     ·exact h
     ·obtain ⟨g, e, hr⟩ := h; exact ⟨g, e, hr.below hb hr.lt⟩
     ·exact h
    case aob =>
     intro i hi hnf vals wc hR hV
     rcases i with _ | _ | _ | _ | _ | _ | _ | i
     ·clear hV hnf hi
      refine ⟨_, rfl, Or.inl ⟨by rfl, Or.inl ⟨.slice Aa k ca, wc, ?_, rfl, (Below.refl _ _)⟩⟩⟩
      (try simp only [putF, List.getD_cons_succ, List.getD_cons_zero, Go.Act.put, sTA, sCZ, sCS])
      go_simp
      try rfl
     ·clear hV hnf hi
      refine ⟨_, rfl, Or.inl ⟨by rfl, Or.inl ⟨.int .i64 srv, wc, ?_, rfl, (Below.refl _ _)⟩⟩⟩
      (try simp only [putF, List.getD_cons_succ, List.getD_cons_zero, Go.Act.put, sTA, sCZ, sCS])
      go_simp
      try rfl
     ·have h1 : (vals 1) = .int .i64 srv := hV (1, 68) (by decide)
      clear hV hnf hi
      refine ⟨_, rfl, Or.inl ⟨by rfl, Or.inr ⟨14, #[.int .i64 srv, .int .i64 6], ?_, ?_⟩⟩⟩
      ·(try simp only [putF, List.getD_cons_succ, List.getD_cons_zero, Go.Act.put, sTA, sCZ, sCS, h1])
       go_simp
       try rfl
      ·refine (HP.out wc).mono ?_
       rintro e w' ⟨rfl, rfl⟩
       exact ⟨_, rfl, rfl, Below.refl _ _⟩
     ·clear hV hnf hi
      have q0 := (hR.cell (p := ⟨w1.heap.size, 0, none⟩) hyl).trans y0
      have q1 := (hR.cell (p := ⟨w1.heap.size, 1, none⟩) hyl).trans y1
      have q2 := (hR.cell (p := ⟨w1.heap.size, 2, none⟩) hyl).trans y2
      refine ⟨_, rfl, Or.inl ⟨by rfl, Or.inl ⟨.agg #[.int .i64 q.k, .string q.key, .string q.val], wc, ?_, rfl, (Below.refl _ _)⟩⟩⟩
      (try simp only [putF, List.getD_cons_succ, List.getD_cons_zero, Go.Act.put, sTA, sCZ, sCS])
      go_simp
      try rfl
     ·have h3 : (vals 3) = .agg #[.int .i64 q.k, .string q.key, .string q.val] := hV (3, 70) (by decide)
      clear hV hnf hi
      refine ⟨_, rfl, Or.inl ⟨by rfl, Or.inr ⟨15, #[.agg #[.int .i64 q.k, .string q.key, .string q.val]], ?_, ?_⟩⟩⟩
      ·(try simp only [putF, List.getD_cons_succ, List.getD_cons_zero, Go.Act.put, sTA, sCZ, sCS, h3])
       go_simp
       try rfl
      ·refine (message_any q HG.out wc (HT.out.below (bel_trans HF5.out.2.2.2.2 hR)).wo).mono ?_
       rintro e w' ⟨rfl, hb⟩
       exact ⟨_, rfl, rfl, hb⟩
     ·have h2 : (vals 2) = .int .i64 c := hV (2, 69) (by decide)
      have h4 : (vals 4) = .string (msg 81 (msgR q)) := hV (4, 71) (by decide)
      clear hV hnf hi
      refine ⟨_, rfl, Or.inl ⟨by rfl, Or.inl ⟨.agg #[.int .i64 1, .int .i64 c, .string (msg 81 (msgR q))], wc, ?_, rfl, (Below.refl _ _)⟩⟩⟩
      (try simp only [putF, List.getD_cons_succ, List.getD_cons_zero, Go.Act.put, sTA, sCZ, sCS, h2, h4])
      go_simp
      try rfl
     ·have h5 : (vals 5) = .agg #[.int .i64 1, .int .i64 c, .string (msg 81 (msgR q))] := hV (5, 72) (by decide)
      clear hV hnf hi
      refine ⟨_, rfl, Or.inl ⟨by rfl, Or.inl ⟨.slice (some ⟨wc.heap.size, 0, none⟩) 1 1, (wc.alloc (.cells #[.int .i64 1, .int .i64 c, .string (msg 81 (msgR q))] 54)), ?_, ⟨_, rfl, RowTo.whole wc _ _⟩, ((Below.refl _ _).alloc (nL _) _)⟩⟩⟩
      (try simp only [putF, List.getD_cons_succ, List.getD_cons_zero, Go.Act.put, sTA, sCZ, sCS, h5])
      go_simp
      try rfl
     ·exact absurd hi (by simp)
    case aof =>
     intro i hi; cases hi
    case afi =>
     intro vals wf hR hV
     have hS := True.intro
     have f0 : (vals 0) = .slice Aa k ca := hV 0 (by decide) (fun k hk => by simp at hk)
     have f6 : ∃ g, (vals 6) = .slice (some ⟨g, 0, none⟩) 1 1 ∧ RowTo wf g 54 3 [.int .i64 1, .int .i64 c, .string (msg 81 (msgR q))] := hV 6 (by decide) (fun k hk => by simp at hk)
     clear hV
     obtain ⟨g, e6, hg⟩ := f6
     (try simp only [putF, List.getD_cons_succ, List.getD_cons_zero, Go.Act.put, sTA, sCZ, sCS, f0, e6])
     obtain ⟨aa, w7, hrun, two7, hb7⟩ := (HF5.out.1.below hR).appA (actOf c q) (by rw [HLL.out.1]; have := HLT.out.2; omega) (by have := hR.size; omega) (b0 := g) (by show RowTo wf g _ 3 [.int .i64 1, .int .i64 c, .string (catQ [msgR q])]; rw [catQ_one]; exact hg)
     have b7 : Below (w0.heap.size + 1 + 1 + 1) w5 w7 := (hR.mono (by omega)).trans hb7
     have H7 := jD (And.intro two7 (And.intro (HF5.out.2.2.1.below b7 HX.out.2.1) (And.intro (HF5.out.2.2.2.1.below b7 HX.out.1) (HF5.out.2.2.2.2.trans (b7.mono HX.out.2.2.2.1)))))
     have hz7 := b7.size
     have HZ7 := jD (show (w0.heap.size + 1 + 1 + 1) ≤ w7.heap.size by omega)
     obtain ⟨⟨Aa2, ca2, ea2⟩, _, _, _⟩ := two7.shape
     rw [List.length_append, HLL.out.1] at ea2
     subst ea2
     clear two7 b7 hb7 hg hR y0 y1 y2 hyl hz7
     refine wpAnyZ_one (i := 7) rfl rfl (by kernel_rfl) (fun K hK => ?_)
     (try simp only [gTA, gCZ, gCS])
     refine Lib.wp_append_run _ _ _ _ _ rfl _ _ rfl rfl _ _ hrun ?_
     have hS2 := True.intro
     refine hK.out _ _ hS2 ?_
     clear hK K hS
     have hS := hS2
     clear hS2
     (try simp only [gTA, gCZ, gCS, Act.put, sTA, sCZ, sCS])
     clear hrun
     refine wpAnyZ_last rfl rfl (by kernel_rfl) (by kernel_rfl) (fun K hK => ?_)
     (try simp only [gTA, gCZ, gCS])
     go_simp
     refine hK.out _ _ ?_
     clear hK K
     (try simp only [gTA, gCZ, gCS, Act.put, sTA, sCZ, sCS])
     go_wp2
     go_roundw
     case rel => exact ⟨k + 1, Nat.succ_le_of_lt HLT.out.1, Nat.succ_le_of_lt HLT.out.2, by go_num, _, _, by rw [HS1.out, HS2.out, HS3.out]; exact ⟨H7.out.2.2.1, H7.out.2.1, H7.out.1, H7.out.2.2.2, HX.out.1, HX.out.2.1, HZ7.out, HX.out.2.2.1, HX.out.2.2.2.1, HX.out.2.2.2.2⟩⟩
     case measure => simp [intOf]; have := HLT.out.1; omega
   ·by_cases h1 : k < l.length
    ·have h40 : ¬ k < 40 := fun h => hlt ⟨h1, h⟩
     clear hlt
     have hla : (alA c l k).length = k := alA_len hk
     have hlt' : (alT l k).length = k := alT_len hk
     obtain ⟨⟨Aa, ca, ea⟩, ⟨At, ct, et⟩, ⟨As, cs, es⟩, Ar, cr, er⟩ := hR.two.shape
     rw [hla] at ea
     rw [hlt'] at et
     subst ea et es er
     have HTS := jD (And.intro (alT_size l k) hlt')
     have hls := hR.two.lists (by rw [hla]; omega) (fun x hx => Nat.le_trans (alA_size x hx) (by omega)) (fun x hx => Nat.le_trans (alT_size l k x hx) (by omega)) (by rw [hlt']; omega)
     have hE := run_E (mode := 1) (s := n) (l := alA c l k) (by unfold setupE; have := HN.out; rw [if_neg (by omega), if_neg (by omega)]) (by rw [hla]; omega) (alA_E HC6.out)
     have HPP := jD (al_pool (mode := 1) (by decide) HC6.out HN.out.1 (Nat.le_trans HN.out.2 (by omega)) hk)
     have HS6 := jD (ran_sent 1 (n := n) (Nat.le_trans HN.out.2 (by omega)) (alA_E (c := c) (l := l) (k := k) HC6.out))
     have HRUN : Hid (Calls Tryz.prog 7 #[.agg #[.int .i64 1, .int .i64 n], .slice Aa k ca] wr (RunPost wr (ranM 1 n (alA c l k)))) := jD (run_any 1 n _ _ wr hls.1 ((HT.out.below hR.bel).up hR.bel.size) hE)
     generalize ranM 1 n (alA c l k) = m1 at *
     have HLS := jD (And.intro hls.2 hR.bel)
     obtain ⟨x0, x1⟩ := cells2 hR.u
     have hUl := hR.u.lt
     have HX0 := jD hR.x
     clear hls hE hR hla
     go_wp2_with fail
     refine HRUN.out.mono ?_
     rintro e1 w1 ⟨o1, o2, o3, rfl, ho, hb1⟩
     have hbw := bel_add' HLS.out.2 hb1 HLS.out.2.size
     obtain ⟨A1, c1, rfl, _⟩ := ho.s.form
     obtain ⟨A2, c2, rfl, _⟩ := ho.d.form
     obtain ⟨A3, c3, rfl, _⟩ := ho.r.form
     have n1 := (Below.refl w1.heap.size w1).alloc (nL _) (.cells #[.slice A1 m1.sent.length c1, .slice A2 m1.deeds.length c2, .slice A3 m1.e.w.rows.length c3] 29)
     have HO := jD (OutAt.new ho hbw)
     have HX1 := jD ((HX0.out.below hb1 HX0.out.lt).below n1 (HX0.out.below hb1 HX0.out.lt).lt)
     have HW1 := jD (And.intro ((HLS.out.1.1.step hb1).step n1) ((HLS.out.1.2.step hb1).step n1))
     have hsl : ((m1.sent.length : Int) != 6) = false := by rw [HS6.out]; rfl
     clear ho hb1 hbw n1 HRUN HLS HX0 x0 x1 hUl
     obtain ⟨W, HW⟩ : ∃ u, Hid ((w1.alloc (.cells #[.slice A1 m1.sent.length c1, .slice A2 m1.deeds.length c2, .slice A3 m1.e.w.rows.length c3] 29)) = u) := ⟨_, jD rfl⟩
     obtain ⟨p0, p1, p2⟩ := cells3 HO.out.o
     go_wp2_with fail
     rw [HW.out] at HO HX1 HW1 p0 p1 p2 ⊢
     clear HW
     have h6 : c < m1.sent.length := by rw [HS6.out]; exact HC6.out
     have h6I : (c : Int) < (m1.sent.length : Int) := by omega
     obtain ⟨qs, us, rfl, hqs, cs⟩ := HO.out.s.pt h6
     have e0 : m1.sent[c] = catM (alT l k) := by have h := HPP.out.1; rw [List.getD_eq_getElem?_getD, List.getElem?_eq_getElem h6] at h; exact h
     rw [e0] at cs
     have hrw : m1.e.w.rows = (alW l k).rows := HPP.out.2.2
     have HDL := jD HPP.out.2.1
     have HAN := jD (fun wc => answers_any (alT l k) wc HTS.out.1 (by rw [HTS.out.2]; omega))
     rw [hrw] at HO p2
     have HOR := jD HO.out.r
     have hpl := HO.out.o.lt
     have hqW : qs < W.heap.size := Nat.lt_of_lt_of_le hqs HO.out.bb
     have hds : (m1.deeds.length : Int) = (k : Int) := by rw [HPP.out.2.1]
     clear e0 hrw HPP
     generalize (alW l k).rows = rws at *
     refine wp_free 11 [9] [] [] [(0, 90), (1, 91), (2, 92), (3, 93), (4, 94), (5, 95), (6, 96), (7, 89), (8, 97), (9, 98)] [[], [(0, 90)], [], [(2, 92)], [(1, 91), (3, 93)], [(4, 94)], [(5, 95)], [(6, 96)], [(7, 89)], [(7, 89)]] (fun i v w => match i with | 0 => v = .pointer (some ⟨w1.heap.size, 0, none⟩) | 1 => v = .slice (some ⟨qs, us, none⟩) m1.sent.length c1 | 2 => v = .int .i64 srv | 3 => v = .int .i64 c | 4 => v = .pointer (some ⟨qs, us + c, none⟩) | 5 => v = .string (catM (alT l k)) | 6 => ∃ va, v = .tuple #[va, .bool true] ∧ ∃ w0, w0.heap.size ≤ w.heap.size ∧ OwnT w0 w va (alT l k) | 7 => ∃ va, v = .tuple #[va, .bool true] ∧ ∃ w0, w0.heap.size ≤ w.heap.size ∧ OwnT w0 w va (alT l k) | 8 => ∃ w0, w0.heap.size ≤ w.heap.size ∧ OwnT w0 w v (alT l k) | 9 => v = .bool true | _ => True) (fun _ w w' => Below w.heap.size w w') (fun wc => Below W.heap.size W wc) 2 (by kernel_rfl) (by rfl) (by kernel_rfl) (fun _ _ _ _ _ h => h) (Below.refl _ _).drew (fun _ _ => Below.refl _ _) ?axmo (fun k w w' h hb => bel_trans h hb) ?axob ?axof ?axfi
     case axmo =>
      intro k i v w w' hk1 hk2 hk3 h hb
      rcases i with _ | _ | _ | _ | _ | _ | _ | _ | _ | _ | i
      ·exact h
      ·exact h
      ·exact h
      ·exact h
      ·exact h
      ·exact h
      ·obtain ⟨va, e, w0, h0, ho⟩ := h; exact ⟨va, e, w0, Nat.le_trans h0 hb.size, ho.below hb⟩
      ·obtain ⟨va, e, w0, h0, ho⟩ := h; exact ⟨va, e, w0, Nat.le_trans h0 hb.size, ho.below hb⟩
      ·obtain ⟨w0, h0, ho⟩ := h; exact ⟨w0, Nat.le_trans h0 hb.size, ho.below hb⟩
      ·exact h
      ·exact h
     case axob =>
      intro i hi hnf vals wc hR hV
      rcases i with _ | _ | _ | _ | _ | _ | _ | _ | _ | _ | i
      ·clear hV hnf hi
       refine ⟨_, rfl, Or.inl ⟨by rfl, Or.inl ⟨.pointer (some ⟨w1.heap.size, 0, none⟩), wc, ?_, rfl, (Below.refl _ _)⟩⟩⟩
       (try simp only [putF, List.getD_cons_succ, List.getD_cons_zero, Go.Act.put, sTA, sCZ, sCS])
       go_simp
       try rfl
      ·have h0 : (vals 0) = .pointer (some ⟨w1.heap.size, 0, none⟩) := hV (0, 90) (by decide)
       clear hV hnf hi
       have q0 := (hR.cell (p := ⟨w1.heap.size, 0, none⟩) hpl).trans p0
       refine ⟨_, rfl, Or.inl ⟨by rfl, Or.inl ⟨.slice (some ⟨qs, us, none⟩) m1.sent.length c1, wc, ?_, rfl, (Below.refl _ _)⟩⟩⟩
       (try simp only [putF, List.getD_cons_succ, List.getD_cons_zero, Go.Act.put, sTA, sCZ, sCS, h0])
       go_simp
       try rfl
      ·clear hV hnf hi
       refine ⟨_, rfl, Or.inl ⟨by rfl, Or.inl ⟨.int .i64 srv, wc, ?_, rfl, (Below.refl _ _)⟩⟩⟩
       (try simp only [putF, List.getD_cons_succ, List.getD_cons_zero, Go.Act.put, sTA, sCZ, sCS])
       go_simp
       try rfl
      ·have h2 : (vals 2) = .int .i64 srv := hV (2, 92) (by decide)
       clear hV hnf hi
       refine ⟨_, rfl, Or.inl ⟨by rfl, Or.inr ⟨14, #[.int .i64 srv, .int .i64 6], ?_, ?_⟩⟩⟩
       ·(try simp only [putF, List.getD_cons_succ, List.getD_cons_zero, Go.Act.put, sTA, sCZ, sCS, h2])
        go_simp
        try rfl
       ·refine (HP.out wc).mono ?_
        rintro e w' ⟨rfl, rfl⟩
        exact ⟨_, rfl, rfl, Below.refl _ _⟩
      ·have h1 : (vals 1) = .slice (some ⟨qs, us, none⟩) m1.sent.length c1 := hV (1, 91) (by decide)
       have h3 : (vals 3) = .int .i64 c := hV (3, 93) (by decide)
       clear hV hnf hi
       refine ⟨_, rfl, Or.inl ⟨by rfl, Or.inl ⟨.pointer (some ⟨qs, us + c, none⟩), wc, ?_, rfl, (Below.refl _ _)⟩⟩⟩
       (try simp only [putF, List.getD_cons_succ, List.getD_cons_zero, Go.Act.put, sTA, sCZ, sCS, h1, h3])
       go_simp
       try rfl
      ·have h4 : (vals 4) = .pointer (some ⟨qs, us + c, none⟩) := hV (4, 94) (by decide)
       clear hV hnf hi
       have q0 := (hR.cell (p := ⟨qs, us + c, none⟩) hqW).trans cs
       refine ⟨_, rfl, Or.inl ⟨by rfl, Or.inl ⟨.string (catM (alT l k)), wc, ?_, rfl, (Below.refl _ _)⟩⟩⟩
       (try simp only [putF, List.getD_cons_succ, List.getD_cons_zero, Go.Act.put, sTA, sCZ, sCS, h4])
       go_simp
       try rfl
      ·have h5 : (vals 5) = .string (catM (alT l k)) := hV (5, 95) (by decide)
       clear hV hnf hi
       refine ⟨_, rfl, Or.inl ⟨by rfl, Or.inr ⟨16, #[.string (catM (alT l k))], ?_, ?_⟩⟩⟩
       ·(try simp only [putF, List.getD_cons_succ, List.getD_cons_zero, Go.Act.put, sTA, sCZ, sCS, h5])
        go_simp
        try rfl
       ·refine (HAN.out wc).mono ?_
        rintro e w' ⟨va, rfl, ho, hb⟩
        exact ⟨_, rfl, ⟨va, rfl, wc, hb.size, ho⟩, hb⟩
      ·have h6 : ∃ va, (vals 6) = .tuple #[va, .bool true] ∧ ∃ w0, w0.heap.size ≤ wc.heap.size ∧ OwnT w0 wc va (alT l k) := hV (6, 96) (by decide)
       clear hV hnf hi
       refine ⟨_, rfl, Or.inl ⟨by rfl, Or.inl ⟨(vals 6), wc, ?_, h6, (Below.refl _ _)⟩⟩⟩
       (try simp only [putF, List.getD_cons_succ, List.getD_cons_zero, Go.Act.put, sTA, sCZ, sCS])
       go_simp
       try rfl
      ·have h7 : ∃ va, (vals 7) = .tuple #[va, .bool true] ∧ ∃ w0, w0.heap.size ≤ wc.heap.size ∧ OwnT w0 wc va (alT l k) := hV (7, 89) (by decide)
       clear hV hnf hi
       obtain ⟨va, e7, ho⟩ := h7
       refine ⟨_, rfl, Or.inl ⟨by rfl, Or.inl ⟨va, wc, ?_, ho, (Below.refl _ _)⟩⟩⟩
       (try simp only [putF, List.getD_cons_succ, List.getD_cons_zero, Go.Act.put, sTA, sCZ, sCS, e7])
       go_simp
       try rfl
      ·exact absurd (by decide) hnf
      ·exact absurd hi (by simp)
     case axof =>
      intro i hi vals wc hR hV
      obtain rfl := List.mem_singleton.1 hi
      ·have h7 : ∃ va, (vals 7) = .tuple #[va, .bool true] ∧ ∃ w0, w0.heap.size ≤ wc.heap.size ∧ OwnT w0 wc va (alT l k) := hV (7, 89) (by decide)
       clear hV hi
       obtain ⟨va, e7, ho⟩ := h7
       refine ⟨_, .bool true, rfl, by rfl, fun w' => ?_, rfl⟩
       (try simp only [putF, List.getD_cons_succ, List.getD_cons_zero, Go.Act.put, sTA, sCZ, sCS, e7])
       go_simp
       try rfl
     case axfi =>
      intro vals wf hR hV
      have hS := True.intro
      have f8 : ∃ w0, w0.heap.size ≤ wf.heap.size ∧ OwnT w0 wf (vals 8) (alT l k) := hV 8 (by decide) (fun k hk => by simp at hk)
      have f9 : (vals 9) = .bool true := hV 9 (by decide) (fun k hk => by simp at hk)
      clear hV
      obtain ⟨w0', hw0', ho⟩ := f8
      obtain ⟨Ag, cg, eg, _⟩ := ho.shape
      rw [HTS.out.2] at eg
      rw [eg] at ho
      (try simp only [putF, List.getD_cons_succ, List.getD_cons_zero, Go.Act.put, sTA, sCZ, sCS, eg, f9])
      have HG9 := jD (ho.lst (fun t ht => Nat.le_trans (HTS.out.1 t ht) (by omega)) (by rw [HTS.out.2]; omega))
      have hpb := hR.cell (p := ⟨w1.heap.size, 2, none⟩) hpl
      have HOB := jD (HO.out.below hR)
      have HXB := jD (HX1.out.below hR HX1.out.lt)
      have HWB := jD (And.intro (HW1.out.1.step hR) (HW1.out.2.step hR))
      have HRB := jD ((HOR.out.below (hR.mono HO.out.bb)).more (Nat.le_trans HO.out.bb hR.size))
      clear ho hpb hR
      refine wpAnyZ_one (i := 10) rfl rfl (by kernel_rfl) (fun K hK => ?_)
      (try simp only [gTA, gCZ, gCS])
      go_simp
      have hS2 := True.intro
      refine hK.out _ _ hS2 ?_
      clear hK K hS
      have hS := hS2
      clear hS2
      (try simp only [gTA, gCZ, gCS, Act.put, sTA, sCZ, sCS])
      refine wpAnyZ_last rfl rfl (by kernel_rfl) (by kernel_rfl) (fun K hK => ?_)
      (try simp only [gTA, gCZ, gCS])
      go_simp
      refine hK.out _ _ ?_
      clear hK K
      (try simp only [gTA, gCZ, gCS, Act.put, sTA, sCZ, sCS])
      clear p0 p1 p2 cs hqW hpl h6 h6I HX1 HO HOR HAN
      obtain ⟨p0, p1, p2⟩ := cells3 HOB.out.o
      obtain ⟨x0, x1⟩ := cells2 HXB.out
      have hpl := HOB.out.o.lt
      have hxl := HXB.out.lt
      go_wp2_with fail
      refine (equalS_same _ _ (alT l k) _ _ HG9.out HWB.out.1).mono ?_
      rintro e8 w8 ⟨rfl, k1, rfl⟩
      have hnD := below_drewN (Below.refl wf.heap.size wf) k1
      obtain ⟨wD, HWD⟩ : ∃ u, Hid (wf.drewN k1 = u) := ⟨_, jD rfl⟩
      rw [HWD.out] at hnD ⊢
      have HOD := jD (HOB.out.below hnD)
      have HXD := jD (HXB.out.below hnD HXB.out.lt)
      have HRD := jD (HWB.out.2.step hnD)
      have HSD := jD (HRB.out.step hnD)
      clear p0 p1 p2 x0 x1 hpl hxl hnD HWD HG9 HWB HRB HXB HOB
      obtain ⟨p0, p1, p2⟩ := cells3 HOD.out.o
      obtain ⟨x0, x1⟩ := cells2 HXD.out
      have hpl := HOD.out.o.lt
      have hxl := HXD.out.lt
      go_wp2_with fail
      refine (equalP_same _ _ rws _ _ HSD.out HRD.out).mono ?_
      rintro e9 w9 ⟨rfl, k2, rfl⟩
      go_wp2
      go_ret
      exact ⟨rfl, below_drewN HOD.out.bel _⟩
    ·clear hlt
     have hla : (alA c l k).length = k := alA_len hk
     have hlt' : (alT l k).length = k := alT_len hk
     obtain ⟨⟨Aa, ca, ea⟩, ⟨At, ct, et⟩, ⟨As, cs, es⟩, Ar, cr, er⟩ := hR.two.shape
     rw [hla] at ea
     rw [hlt'] at et
     subst ea et es er
     have HTS := jD (And.intro (alT_size l k) hlt')
     have hls := hR.two.lists (by rw [hla]; omega) (fun x hx => Nat.le_trans (alA_size x hx) (by omega)) (fun x hx => Nat.le_trans (alT_size l k x hx) (by omega)) (by rw [hlt']; omega)
     have hE := run_E (mode := 1) (s := n) (l := alA c l k) (by unfold setupE; have := HN.out; rw [if_neg (by omega), if_neg (by omega)]) (by rw [hla]; omega) (alA_E HC6.out)
     have HPP := jD (al_pool (mode := 1) (by decide) HC6.out HN.out.1 (Nat.le_trans HN.out.2 (by omega)) hk)
     have HS6 := jD (ran_sent 1 (n := n) (Nat.le_trans HN.out.2 (by omega)) (alA_E (c := c) (l := l) (k := k) HC6.out))
     have HRUN : Hid (Calls Tryz.prog 7 #[.agg #[.int .i64 1, .int .i64 n], .slice Aa k ca] wr (RunPost wr (ranM 1 n (alA c l k)))) := jD (run_any 1 n _ _ wr hls.1 ((HT.out.below hR.bel).up hR.bel.size) hE)
     generalize ranM 1 n (alA c l k) = m1 at *
     have HLS := jD (And.intro hls.2 hR.bel)
     obtain ⟨x0, x1⟩ := cells2 hR.u
     have hUl := hR.u.lt
     have HX0 := jD hR.x
     clear hls hE hR hla
     go_wp2_with fail
     refine HRUN.out.mono ?_
     rintro e1 w1 ⟨o1, o2, o3, rfl, ho, hb1⟩
     have hbw := bel_add' HLS.out.2 hb1 HLS.out.2.size
     obtain ⟨A1, c1, rfl, _⟩ := ho.s.form
     obtain ⟨A2, c2, rfl, _⟩ := ho.d.form
     obtain ⟨A3, c3, rfl, _⟩ := ho.r.form
     have n1 := (Below.refl w1.heap.size w1).alloc (nL _) (.cells #[.slice A1 m1.sent.length c1, .slice A2 m1.deeds.length c2, .slice A3 m1.e.w.rows.length c3] 29)
     have HO := jD (OutAt.new ho hbw)
     have HX1 := jD ((HX0.out.below hb1 HX0.out.lt).below n1 (HX0.out.below hb1 HX0.out.lt).lt)
     have HW1 := jD (And.intro ((HLS.out.1.1.step hb1).step n1) ((HLS.out.1.2.step hb1).step n1))
     have hsl : ((m1.sent.length : Int) != 6) = false := by rw [HS6.out]; rfl
     clear ho hb1 hbw n1 HRUN HLS HX0 x0 x1 hUl
     obtain ⟨W, HW⟩ : ∃ u, Hid ((w1.alloc (.cells #[.slice A1 m1.sent.length c1, .slice A2 m1.deeds.length c2, .slice A3 m1.e.w.rows.length c3] 29)) = u) := ⟨_, jD rfl⟩
     obtain ⟨p0, p1, p2⟩ := cells3 HO.out.o
     go_wp2_with fail
     rw [HW.out] at HO HX1 HW1 p0 p1 p2 ⊢
     clear HW
     have h6 : c < m1.sent.length := by rw [HS6.out]; exact HC6.out
     have h6I : (c : Int) < (m1.sent.length : Int) := by omega
     obtain ⟨qs, us, rfl, hqs, cs⟩ := HO.out.s.pt h6
     have e0 : m1.sent[c] = catM (alT l k) := by have h := HPP.out.1; rw [List.getD_eq_getElem?_getD, List.getElem?_eq_getElem h6] at h; exact h
     rw [e0] at cs
     have hrw : m1.e.w.rows = (alW l k).rows := HPP.out.2.2
     have HDL := jD HPP.out.2.1
     have HAN := jD (fun wc => answers_any (alT l k) wc HTS.out.1 (by rw [HTS.out.2]; omega))
     rw [hrw] at HO p2
     have HOR := jD HO.out.r
     have hpl := HO.out.o.lt
     have hqW : qs < W.heap.size := Nat.lt_of_lt_of_le hqs HO.out.bb
     have hds : (m1.deeds.length : Int) = (k : Int) := by rw [HPP.out.2.1]
     clear e0 hrw HPP
     generalize (alW l k).rows = rws at *
     refine wp_free 11 [9] [] [] [(0, 90), (1, 91), (2, 92), (3, 93), (4, 94), (5, 95), (6, 96), (7, 89), (8, 97), (9, 98)] [[], [(0, 90)], [], [(2, 92)], [(1, 91), (3, 93)], [(4, 94)], [(5, 95)], [(6, 96)], [(7, 89)], [(7, 89)]] (fun i v w => match i with | 0 => v = .pointer (some ⟨w1.heap.size, 0, none⟩) | 1 => v = .slice (some ⟨qs, us, none⟩) m1.sent.length c1 | 2 => v = .int .i64 srv | 3 => v = .int .i64 c | 4 => v = .pointer (some ⟨qs, us + c, none⟩) | 5 => v = .string (catM (alT l k)) | 6 => ∃ va, v = .tuple #[va, .bool true] ∧ ∃ w0, w0.heap.size ≤ w.heap.size ∧ OwnT w0 w va (alT l k) | 7 => ∃ va, v = .tuple #[va, .bool true] ∧ ∃ w0, w0.heap.size ≤ w.heap.size ∧ OwnT w0 w va (alT l k) | 8 => ∃ w0, w0.heap.size ≤ w.heap.size ∧ OwnT w0 w v (alT l k) | 9 => v = .bool true | _ => True) (fun _ w w' => Below w.heap.size w w') (fun wc => Below W.heap.size W wc) 2 (by kernel_rfl) (by rfl) (by kernel_rfl) (fun _ _ _ _ _ h => h) (Below.refl _ _).drew (fun _ _ => Below.refl _ _) ?aymo (fun k w w' h hb => bel_trans h hb) ?ayob ?ayof ?ayfi
     case aymo =>
      intro k i v w w' hk1 hk2 hk3 h hb
      rcases i with _ | _ | _ | _ | _ | _ | _ | _ | _ | _ | i
      ·exact h
      ·exact h
      ·exact h
      ·exact h
      ·exact h
      ·exact h
      ·obtain ⟨va, e, w0, h0, ho⟩ := h; exact ⟨va, e, w0, Nat.le_trans h0 hb.size, ho.below hb⟩
      ·obtain ⟨va, e, w0, h0, ho⟩ := h; exact ⟨va, e, w0, Nat.le_trans h0 hb.size, ho.below hb⟩
      ·obtain ⟨w0, h0, ho⟩ := h; exact ⟨w0, Nat.le_trans h0 hb.size, ho.below hb⟩
      ·exact h
      ·exact h
     case ayob =>
      intro i hi hnf vals wc hR hV
      rcases i with _ | _ | _ | _ | _ | _ | _ | _ | _ | _ | i
      ·clear hV hnf hi
       refine ⟨_, rfl, Or.inl ⟨by rfl, Or.inl ⟨.pointer (some ⟨w1.heap.size, 0, none⟩), wc, ?_, rfl, (Below.refl _ _)⟩⟩⟩
       (try simp only [putF, List.getD_cons_succ, List.getD_cons_zero, Go.Act.put, sTA, sCZ, sCS])
       go_simp
       try rfl
      ·have h0 : (vals 0) = .pointer (some ⟨w1.heap.size, 0, none⟩) := hV (0, 90) (by decide)
       clear hV hnf hi
       have q0 := (hR.cell (p := ⟨w1.heap.size, 0, none⟩) hpl).trans p0
       refine ⟨_, rfl, Or.inl ⟨by rfl, Or.inl ⟨.slice (some ⟨qs, us, none⟩) m1.sent.length c1, wc, ?_, rfl, (Below.refl _ _)⟩⟩⟩
       (try simp only [putF, List.getD_cons_succ, List.getD_cons_zero, Go.Act.put, sTA, sCZ, sCS, h0])
       go_simp
       try rfl
      ·clear hV hnf hi
       refine ⟨_, rfl, Or.inl ⟨by rfl, Or.inl ⟨.int .i64 srv, wc, ?_, rfl, (Below.refl _ _)⟩⟩⟩
       (try simp only [putF, List.getD_cons_succ, List.getD_cons_zero, Go.Act.put, sTA, sCZ, sCS])
       go_simp
       try rfl
      ·have h2 : (vals 2) = .int .i64 srv := hV (2, 92) (by decide)
       clear hV hnf hi
       refine ⟨_, rfl, Or.inl ⟨by rfl, Or.inr ⟨14, #[.int .i64 srv, .int .i64 6], ?_, ?_⟩⟩⟩
       ·(try simp only [putF, List.getD_cons_succ, List.getD_cons_zero, Go.Act.put, sTA, sCZ, sCS, h2])
        go_simp
        try rfl
       ·refine (HP.out wc).mono ?_
        rintro e w' ⟨rfl, rfl⟩
        exact ⟨_, rfl, rfl, Below.refl _ _⟩
      ·have h1 : (vals 1) = .slice (some ⟨qs, us, none⟩) m1.sent.length c1 := hV (1, 91) (by decide)
       have h3 : (vals 3) = .int .i64 c := hV (3, 93) (by decide)
       clear hV hnf hi
       refine ⟨_, rfl, Or.inl ⟨by rfl, Or.inl ⟨.pointer (some ⟨qs, us + c, none⟩), wc, ?_, rfl, (Below.refl _ _)⟩⟩⟩
       (try simp only [putF, List.getD_cons_succ, List.getD_cons_zero, Go.Act.put, sTA, sCZ, sCS, h1, h3])
       go_simp
       try rfl
      ·have h4 : (vals 4) = .pointer (some ⟨qs, us + c, none⟩) := hV (4, 94) (by decide)
       clear hV hnf hi
       have q0 := (hR.cell (p := ⟨qs, us + c, none⟩) hqW).trans cs
       refine ⟨_, rfl, Or.inl ⟨by rfl, Or.inl ⟨.string (catM (alT l k)), wc, ?_, rfl, (Below.refl _ _)⟩⟩⟩
       (try simp only [putF, List.getD_cons_succ, List.getD_cons_zero, Go.Act.put, sTA, sCZ, sCS, h4])
       go_simp
       try rfl
      ·have h5 : (vals 5) = .string (catM (alT l k)) := hV (5, 95) (by decide)
       clear hV hnf hi
       refine ⟨_, rfl, Or.inl ⟨by rfl, Or.inr ⟨16, #[.string (catM (alT l k))], ?_, ?_⟩⟩⟩
       ·(try simp only [putF, List.getD_cons_succ, List.getD_cons_zero, Go.Act.put, sTA, sCZ, sCS, h5])
        go_simp
        try rfl
       ·refine (HAN.out wc).mono ?_
        rintro e w' ⟨va, rfl, ho, hb⟩
        exact ⟨_, rfl, ⟨va, rfl, wc, hb.size, ho⟩, hb⟩
      ·have h6 : ∃ va, (vals 6) = .tuple #[va, .bool true] ∧ ∃ w0, w0.heap.size ≤ wc.heap.size ∧ OwnT w0 wc va (alT l k) := hV (6, 96) (by decide)
       clear hV hnf hi
       refine ⟨_, rfl, Or.inl ⟨by rfl, Or.inl ⟨(vals 6), wc, ?_, h6, (Below.refl _ _)⟩⟩⟩
       (try simp only [putF, List.getD_cons_succ, List.getD_cons_zero, Go.Act.put, sTA, sCZ, sCS])
       go_simp
       try rfl
      ·have h7 : ∃ va, (vals 7) = .tuple #[va, .bool true] ∧ ∃ w0, w0.heap.size ≤ wc.heap.size ∧ OwnT w0 wc va (alT l k) := hV (7, 89) (by decide)
       clear hV hnf hi
       obtain ⟨va, e7, ho⟩ := h7
       refine ⟨_, rfl, Or.inl ⟨by rfl, Or.inl ⟨va, wc, ?_, ho, (Below.refl _ _)⟩⟩⟩
       (try simp only [putF, List.getD_cons_succ, List.getD_cons_zero, Go.Act.put, sTA, sCZ, sCS, e7])
       go_simp
       try rfl
      ·exact absurd (by decide) hnf
      ·exact absurd hi (by simp)
     case ayof =>
      intro i hi vals wc hR hV
      obtain rfl := List.mem_singleton.1 hi
      ·have h7 : ∃ va, (vals 7) = .tuple #[va, .bool true] ∧ ∃ w0, w0.heap.size ≤ wc.heap.size ∧ OwnT w0 wc va (alT l k) := hV (7, 89) (by decide)
       clear hV hi
       obtain ⟨va, e7, ho⟩ := h7
       refine ⟨_, .bool true, rfl, by rfl, fun w' => ?_, rfl⟩
       (try simp only [putF, List.getD_cons_succ, List.getD_cons_zero, Go.Act.put, sTA, sCZ, sCS, e7])
       go_simp
       try rfl
     case ayfi =>
      intro vals wf hR hV
      have hS := True.intro
      have f8 : ∃ w0, w0.heap.size ≤ wf.heap.size ∧ OwnT w0 wf (vals 8) (alT l k) := hV 8 (by decide) (fun k hk => by simp at hk)
      have f9 : (vals 9) = .bool true := hV 9 (by decide) (fun k hk => by simp at hk)
      clear hV
      obtain ⟨w0', hw0', ho⟩ := f8
      obtain ⟨Ag, cg, eg, _⟩ := ho.shape
      rw [HTS.out.2] at eg
      rw [eg] at ho
      (try simp only [putF, List.getD_cons_succ, List.getD_cons_zero, Go.Act.put, sTA, sCZ, sCS, eg, f9])
      have HG9 := jD (ho.lst (fun t ht => Nat.le_trans (HTS.out.1 t ht) (by omega)) (by rw [HTS.out.2]; omega))
      have hpb := hR.cell (p := ⟨w1.heap.size, 2, none⟩) hpl
      have HOB := jD (HO.out.below hR)
      have HXB := jD (HX1.out.below hR HX1.out.lt)
      have HWB := jD (And.intro (HW1.out.1.step hR) (HW1.out.2.step hR))
      have HRB := jD ((HOR.out.below (hR.mono HO.out.bb)).more (Nat.le_trans HO.out.bb hR.size))
      clear ho hpb hR
      refine wpAnyZ_one (i := 10) rfl rfl (by kernel_rfl) (fun K hK => ?_)
      (try simp only [gTA, gCZ, gCS])
      go_simp
      have hS2 := True.intro
      refine hK.out _ _ hS2 ?_
      clear hK K hS
      have hS := hS2
      clear hS2
      (try simp only [gTA, gCZ, gCS, Act.put, sTA, sCZ, sCS])
      refine wpAnyZ_last rfl rfl (by kernel_rfl) (by kernel_rfl) (fun K hK => ?_)
      (try simp only [gTA, gCZ, gCS])
      go_simp
      refine hK.out _ _ ?_
      clear hK K
      (try simp only [gTA, gCZ, gCS, Act.put, sTA, sCZ, sCS])
      clear p0 p1 p2 cs hqW hpl h6 h6I HX1 HO HOR HAN
      obtain ⟨p0, p1, p2⟩ := cells3 HOB.out.o
      obtain ⟨x0, x1⟩ := cells2 HXB.out
      have hpl := HOB.out.o.lt
      have hxl := HXB.out.lt
      go_wp2_with fail
      refine (equalS_same _ _ (alT l k) _ _ HG9.out HWB.out.1).mono ?_
      rintro e8 w8 ⟨rfl, k1, rfl⟩
      have hnD := below_drewN (Below.refl wf.heap.size wf) k1
      obtain ⟨wD, HWD⟩ : ∃ u, Hid (wf.drewN k1 = u) := ⟨_, jD rfl⟩
      rw [HWD.out] at hnD ⊢
      have HOD := jD (HOB.out.below hnD)
      have HXD := jD (HXB.out.below hnD HXB.out.lt)
      have HRD := jD (HWB.out.2.step hnD)
      have HSD := jD (HRB.out.step hnD)
      clear p0 p1 p2 x0 x1 hpl hxl hnD HWD HG9 HWB HRB HXB HOB
      obtain ⟨p0, p1, p2⟩ := cells3 HOD.out.o
      obtain ⟨x0, x1⟩ := cells2 HXD.out
      have hpl := HOD.out.o.lt
      have hxl := HXD.out.lt
      go_wp2_with fail
      refine (equalP_same _ _ rws _ _ HSD.out HRD.out).mono ?_
      rintro e9 w9 ⟨rfl, k2, rfl⟩
      go_wp2
      go_ret
      exact ⟨rfl, below_drewN HOD.out.bel _⟩
 ·have HA0 : Hid (AlAt w (((w0.alloc (.cells #[.int .i64 2, .int .i64 n] 23)).alloc (.cells (madeCells #[.int .i64 0, .slice none 0 0, .slice none 0 0, .slice none 0 0, .slice none 0 0] (1 * 5)) 115)).alloc (.cells #[.slice none 0 0, .slice (some ⟨w0.heap.size + 1, 0, none⟩) 1 1] 39)) w0.heap.size (w0.heap.size + 1 + 1) (w0.heap.size + 1 + 1 + 1) 2 n (.slice none 0 0) (.slice none 0 0) (.slice none 0 0) (.slice (some ⟨w0.heap.size + 1, 0, none⟩) 1 1) (alA c l 0) (alT l 0) (alW l 0)) := by
   have a1 := (Below.refl w0.heap.size w0).alloc (nL _) (.cells #[.int .i64 2, .int .i64 n] 23)
   have a2 := (a1.alloc (by simp) (.cells (madeCells #[.int .i64 0, .slice none 0 0, .slice none 0 0, .slice none 0 0, .slice none 0 0] (1 * 5)) 115)).alloc (by simp; omega) (.cells #[.slice none 0 0, .slice (some ⟨w0.heap.size + 1, 0, none⟩) 1 1] 39)
   have y1 := ((RowTo.whole w0 #[.int .i64 2, .int .i64 n] 23).alloc (.cells (madeCells #[.int .i64 0, .slice none 0 0, .slice none 0 0, .slice none 0 0, .slice none 0 0] (1 * 5)) 115)).alloc (.cells #[.slice none 0 0, .slice (some ⟨w0.heap.size + 1, 0, none⟩) 1 1] 39)
   have y2 := RowTo.whole ((w0.alloc (.cells #[.int .i64 2, .int .i64 n] 23)).alloc (.cells (madeCells #[.int .i64 0, .slice none 0 0, .slice none 0 0, .slice none 0 0, .slice none 0 0] (1 * 5)) 115)) #[.slice none 0 0, .slice (some ⟨w0.heap.size + 1, 0, none⟩) 1 1] 39
   have y3 := two_start (w0.alloc (.cells #[.int .i64 2, .int .i64 n] 23)) (w0.heap.size + 1 + 1 + 1)
   simp only [World.size_alloc] at y2 y3
   have := HB0.out.size
   exact jD ⟨y1, y2, y3, bel_add' HB0.out a2 HB0.out.size, by omega, by omega, by simp, by omega, by omega, by omega⟩
  go_wp2
  clear hmk
  go_loopw [9, 10, 11] (fun a t j wr => ∃ k : Nat, k ≤ l.length ∧ k ≤ 40 ∧ j = .int .i64 k ∧ Hid (∃ r s, AlAt w wr w0.heap.size (w0.heap.size + 1 + 1) (w0.heap.size + 1 + 1 + 1) 2 n a t r s (alA c l k) (alT l k) (alW l k))) (fun _ _ j _ => l.length - (intOf j).toNat)
  case atStart => exact ⟨0, by omega, by omega, rfl, _, _, HA0.out⟩
  case round =>
   obtain ⟨k, hk, hk40, rfl, HR⟩ := hrel
   clear HA0
   obtain ⟨r, s, hR⟩ := HR.out
   clear HR
   by_cases hlt : k < l.length ∧ k < 40
   ·obtain ⟨hlt, hlt40⟩ := hlt
    have HS1 := jD (alA_step (c := c) hlt)
    have HS2 := jD (alT_step hlt)
    have HS3 := jD (alW_step hlt)
    have HOK := jD (alW_ok l k)
    have hla : (alA c l k).length = k := alA_len hk
    have hlt' : (alT l k).length = k := alT_len hk
    generalize alA c l k = al at *
    generalize alT l k = tl at *
    generalize alW l k = Wk at *
    have hwf := HL.out.wf l[k] (List.getElem_mem hlt)
    obtain ⟨bb, off, rfl, hb, l0, l1, l2, l3⟩ := HL.out.pt hlt
    generalize hx : l[k] = x at *
    clear hx
    have bl := hR.bel
    have d0 := (bl.cell (p := ⟨bb, off + k * 4, none⟩) hb).trans l0
    have d1 := (bl.cell (p := ⟨bb, off + k * 4 + 1, none⟩) hb).trans l1
    have d2 := (bl.cell (p := ⟨bb, off + k * 4 + 2, none⟩) hb).trans l2
    have d3 := (bl.cell (p := ⟨bb, off + k * 4 + 3, none⟩) hb).trans l3
    have hbw : bb < wr.heap.size := Nat.lt_of_lt_of_le hb bl.size
    obtain ⟨v1, v2, v3, v4⟩ := hwf
    obtain ⟨⟨Aa, ca, ea⟩, ⟨At, ct, et⟩, ⟨As, cs, es⟩, Ar, cr, er⟩ := hR.two.shape
    rw [hla] at ea
    rw [hlt'] at et
    subst ea et es er
    have HT2 : Hid (∀ wc : World, Calls Tryz.prog 11 #[.agg #[.int .i64 x.kd, .int .i64 x.a, .int .i64 x.b, .int .i64 x.c]] wc fun e w' => e = .returned (.agg #[.int .i64 (reqR x).k, .string (reqR x).key, .string (reqR x).val]) ∧ Below wc.heap.size wc w') := jD fun wc => stmt_any x.kd x.a x.b x.c wc v1 v2 v3 v4
    have HG := jD (reqR_ok x)
    generalize reqR x = q at *
    obtain ⟨R, HQ⟩ : ∃ R, Hid (doR Wk 0 q = R) := ⟨_, jD rfl⟩
    obtain ⟨st, HST⟩ : ∃ st, Hid ((R.1.at 0).st = st) := ⟨_, jD rfl⟩
    rw [HQ.out, HST.out] at HS2
    rw [HQ.out] at HS3
    have HAN : Hid (AnsOk R.2 ∧ 0 ≤ st ∧ st ≤ 2) := jD (by
     have h1 := doR_ok HOK.out.1 (i := 0) (by rw [HOK.out.2]; omega) HG.out
     have h2 := st_of h1.1 (i := 0) (by rw [h1.2, HOK.out.2]; omega)
     have h3 := doM_ans HOK.out.1 (i := 0) (by rw [HOK.out.2]; omega) q.k q.key q.val
     have h4 : doM Wk 0 q.k q.key q.val = R := HQ.out
     rw [HQ.out, HST.out] at h2
     rw [h4] at h3
     exact ⟨h3, h2⟩)
    have HRR := jD hR
    have HLT := jD (And.intro hlt hlt40)
    have HLL := jD (And.intro hla hlt')
    obtain ⟨x0, x1⟩ := cells2 hR.x
    have hXl := hR.x.lt
    clear hR bl l0 l1 l2 l3 v1 v2 v3 v4 hk hk40 hla hlt'
    go_wp2_with fail
    refine (HT2.out _).mono ?_
    rintro e1 w1 ⟨rfl, hb1⟩
    have n1 := ((Below.refl w1.heap.size w1).alloc (nL _) (.cells #[.int .i64 q.k, .string q.key, .string q.val] 41)).alloc (by simp) (.cells #[.int .i64 q.k, .string q.key, .string q.val] 41)
    have X9 := (RowTo.whole w1 #[.int .i64 q.k, .string q.key, .string q.val] 41).alloc (.cells #[.int .i64 q.k, .string q.key, .string q.val] 41)
    have S9 := RowTo.whole (w1.alloc (.cells #[.int .i64 q.k, .string q.key, .string q.val] 41)) #[.int .i64 q.k, .string q.key, .string q.val] 41
    rw [World.size_alloc] at S9
    have hX1 := HRR.out.x.below hb1 HRR.out.x.lt
    have hx1 := hX1.below n1 hX1.lt
    have hU1 := HRR.out.u.below hb1 HRR.out.u.lt
    have hu1 := hU1.below n1 hU1.lt
    have hB1 := bel_add' (bel_add' HRR.out.bel hb1 HRR.out.bel.size) n1 (bel_add' HRR.out.bel hb1 HRR.out.bel.size).size
    obtain ⟨Q, hQ, hfin⟩ := ((HRR.out.two.below hb1).below n1).opened
    have hz1 : w0.heap.size + 1 + 1 + 1 ≤ w1.heap.size := Nat.le_trans HRR.out.hB hb1.size
    have HSD := jD (said_new1 (t := 41) (k := q.k) (key := q.key) (val := q.val) HQ.out HST.out HOK.out.1 (i := 0) (by rw [HOK.out.2]; omega) HG.out _ _ _ _ hQ S9 (HT.out.below hB1).wo)
    have HF := jD (And.intro X9 (And.intro hx1 (And.intro hu1 (And.intro hB1 hfin))))
    obtain ⟨x0, x1⟩ := cells2 hX1
    have hXl := hX1.lt
    clear n1 X9 S9 hU1 hx1 hu1 hB1 hQ hfin hX1 hb1 d0 d1 d2 d3 HT2
    go_wp2_with fail
    refine HSD.out.mono ?_
    rintro e2 w2 ⟨D2, d2, A2, c2, rfl, hw2, hb2⟩
    have hz2 := hb2.size
    simp only [World.size_alloc] at hz2
    have n2 := ((Below.refl w2.heap.size w2).alloc (nL _) (.cells #[.slice D2 R.1.rows.length d2, .slice A2 R.1.ss.length c2] 39)).alloc (by simp) (.cells #[.int .i64 R.2.kind, .string R.2.text, .int .i64 st] 46)
    have N2 := (RowTo.whole w2 #[.slice D2 R.1.rows.length d2, .slice A2 R.1.ss.length c2] 39).alloc (.cells #[.int .i64 R.2.kind, .string R.2.text, .int .i64 st] 46)
    have two2 := (HF.out.2.2.2.2 w2 _ _ _ hb2 hw2).below n2
    have hX9 := HF.out.1.below hb2 HF.out.1.lt
    have hX2 := HF.out.2.1.below hb2 HF.out.2.1.lt
    have hU2 := HF.out.2.2.1.below hb2 HF.out.2.2.1.lt
    have hB2 := bel_add' HF.out.2.2.2.1 hb2 HF.out.2.2.2.1.size
    have HF2 := jD (And.intro two2 (And.intro N2 (And.intro (hX9.below n2 hX9.lt) (And.intro (hX2.below n2 hX2.lt) (And.intro (hU2.below n2 hU2.lt) (bel_add' hB2 n2 hB2.size))))))
    clear HSD HF n2 N2 two2 hX9 hX2 hU2 hB2 hw2 hb2 x0 x1 hXl
    have HTL := jD (tell_one R.2 st _ ((HT.out.below HF2.out.2.2.2.2.2).le) HAN.out)
    go_wp2_with fail
    refine HTL.out.mono ?_
    rintro e3 w3 ⟨rfl, hb3⟩
    obtain ⟨f1, f2, f3, f4, f5, f6⟩ := HF2.out
    have hz3 := hb3.size
    simp only [World.size_alloc] at hz3
    have g2 := f2.below hb3 f2.lt
    have g3 := f3.below hb3 f3.lt
    have g4 := f4.below hb3 f4.lt
    have g5 := f5.below hb3 f5.lt
    have g6 := bel_add' f6 hb3 f6.size
    have two4 := (f1.below hb3).set2 g4 HRR.out.xB (.slice D2 R.1.rows.length d2) (.slice A2 R.1.ss.length c2)
    obtain ⟨n0, n1⟩ := cells2 g2
    have hNl := g2.lt
    obtain ⟨x0, x1⟩ := cells2 g4
    have hXl := g4.lt
    have p0 := g4.frozen 0
    have p1 := g4.frozen 1
    have hzw : ((w3.setCell ⟨(w0.heap.size + 1 + 1), 0, none⟩ (.slice D2 R.1.rows.length d2)).setCell ⟨(w0.heap.size + 1 + 1), 1, none⟩ (.slice A2 R.1.ss.length c2)).heap.size = w3.heap.size := by simp [World.setCell]
    obtain ⟨tt, w5, hrun, two5, hb5, hty⟩ := two4.appT (tellT R.2.kind.toNat st.toNat R.2.text) (by rw [HLL.out.2]; have := HLT.out.2; omega) (by rw [hzw]; omega)
    have k3 := hty _ _ _ _ ((g3.oth2 (R := (w0.heap.size + 1 + 1)) (by omega) (.slice D2 R.1.rows.length d2) (.slice A2 R.1.ss.length c2))) (by decide)
    have j3 := (g3.oth2 (R := (w0.heap.size + 1 + 1)) (by omega) (.slice D2 R.1.rows.length d2) (.slice A2 R.1.ss.length c2)).same k3
    have j4 := (g4.set2 (.slice D2 R.1.rows.length d2) (.slice A2 R.1.ss.length c2)).below hb5 HRR.out.xB
    have j5 := (g5.oth2 (R := (w0.heap.size + 1 + 1)) (by omega) (.slice D2 R.1.rows.length d2) (.slice A2 R.1.ss.length c2)).below hb5 HRR.out.uB
    have j6 := (bel_set2 g6 HRR.out.wX (.slice D2 R.1.rows.length d2) (.slice A2 R.1.ss.length c2)).trans (hb5.mono HRR.out.wB)
    have hz5 := hb5.size
    rw [hzw] at hz5 hrun
    have HF5 := jD (And.intro two5 (And.intro j3 (And.intro j4 (And.intro j5 j6))))
    have HX := jD (And.intro HRR.out.uB (And.intro HRR.out.xB (And.intro HRR.out.wX (And.intro HRR.out.wB HRR.out.ne))))
    obtain ⟨_, ⟨At2, ct2, et2⟩, _, _⟩ := two5.shape
    rw [List.length_append, HLL.out.2] at et2
    subst et2
    clear HF2 HTL f1 f2 f3 f4 f5 f6 g2 g3 g4 g5 g6 hb3 two4 two5 hty hb5 k3 j3 j4 j5 j6 hzw HRR
    go_wp2_with (at_builtin; refine Lib.wpList_append_run _ rfl _ _ _ _ rfl _ _ rfl rfl _ _ hrun ?_)
    clear hrun n0 n1 hNl x0 x1 hXl p0 p1
    obtain ⟨y0, y1, y2⟩ := cells3 HF5.out.2.1
    have hyl := HF5.out.2.1.lt
    refine wp_free 8 [] [] [] [(0, 67), (1, 68), (2, 69), (3, 70), (4, 71), (5, 72), (6, 73)] [[], [], [(1, 68)], [], [(3, 70)], [(2, 69), (4, 71)], [(5, 72)]] (fun i v w => match i with | 0 => v = .slice Aa k ca | 1 => v = .int .i64 srv | 2 => v = .int .i64 c | 3 => v = .agg #[.int .i64 q.k, .string q.key, .string q.val] | 4 => v = .string (msg 81 (msgR q)) | 5 => v = .agg #[.int .i64 1, .int .i64 c, .string (msg 81 (msgR q))] | 6 => ∃ g, v = .slice (some ⟨g, 0, none⟩) 1 1 ∧ RowTo w g 54 3 [.int .i64 1, .int .i64 c, .string (msg 81 (msgR q))] | _ => True) (fun _ w w' => Below w.heap.size w w') (fun wc => Below w5.heap.size w5 wc) 2 (by kernel_rfl) (by rfl) (by kernel_rfl) (fun _ _ _ _ _ h => h) (Below.refl _ _).drew (fun _ _ => Below.refl _ _) ?bmo (fun k w w' h hb => bel_trans h hb) ?bob ?bof ?bfi
    case bmo =>
     intro k i v w w' hk1 hk2 hk3 h hb
     rcases i with _ | _ | _ | _ | _ | _ | _ | i
     ·exact h
     ·exact h
     ·exact h
     ·exact h
     ·exact h
     ·exact h
     ·obtain ⟨g, e, hr⟩ := h; exact ⟨g, e, hr.below hb hr.lt⟩
     ·exact h
    case bob =>
     intro i hi hnf vals wc hR hV
     rcases i with _ | _ | _ | _ | _ | _ | _ | i
     ·clear hV hnf hi
      refine ⟨_, rfl, Or.inl ⟨by rfl, Or.inl ⟨.slice Aa k ca, wc, ?_, rfl, (Below.refl _ _)⟩⟩⟩
      (try simp only [putF, List.getD_cons_succ, List.getD_cons_zero, Go.Act.put, sTA, sCZ, sCS])
      go_simp
      try rfl
     ·clear hV hnf hi
      refine ⟨_, rfl, Or.inl ⟨by rfl, Or.inl ⟨.int .i64 srv, wc, ?_, rfl, (Below.refl _ _)⟩⟩⟩
      (try simp only [putF, List.getD_cons_succ, List.getD_cons_zero, Go.Act.put, sTA, sCZ, sCS])
      go_simp
      try rfl
     ·have h1 : (vals 1) = .int .i64 srv := hV (1, 68) (by decide)
      clear hV hnf hi
      refine ⟨_, rfl, Or.inl ⟨by rfl, Or.inr ⟨14, #[.int .i64 srv, .int .i64 6], ?_, ?_⟩⟩⟩
      ·(try simp only [putF, List.getD_cons_succ, List.getD_cons_zero, Go.Act.put, sTA, sCZ, sCS, h1])
       go_simp
       try rfl
      ·refine (HP.out wc).mono ?_
       rintro e w' ⟨rfl, rfl⟩
       exact ⟨_, rfl, rfl, Below.refl _ _⟩
     ·clear hV hnf hi
      have q0 := (hR.cell (p := ⟨w1.heap.size, 0, none⟩) hyl).trans y0
      have q1 := (hR.cell (p := ⟨w1.heap.size, 1, none⟩) hyl).trans y1
      have q2 := (hR.cell (p := ⟨w1.heap.size, 2, none⟩) hyl).trans y2
      refine ⟨_, rfl, Or.inl ⟨by rfl, Or.inl ⟨.agg #[.int .i64 q.k, .string q.key, .string q.val], wc, ?_, rfl, (Below.refl _ _)⟩⟩⟩
      (try simp only [putF, List.getD_cons_succ, List.getD_cons_zero, Go.Act.put, sTA, sCZ, sCS])
      go_simp
      try rfl
     ·have h3 : (vals 3) = .agg #[.int .i64 q.k, .string q.key, .string q.val] := hV (3, 70) (by decide)
      clear hV hnf hi
      refine ⟨_, rfl, Or.inl ⟨by rfl, Or.inr ⟨15, #[.agg #[.int .i64 q.k, .string q.key, .string q.val]], ?_, ?_⟩⟩⟩
      ·(try simp only [putF, List.getD_cons_succ, List.getD_cons_zero, Go.Act.put, sTA, sCZ, sCS, h3])
       go_simp
       try rfl
      ·refine (message_any q HG.out wc (HT.out.below (bel_trans HF5.out.2.2.2.2 hR)).wo).mono ?_
       rintro e w' ⟨rfl, hb⟩
       exact ⟨_, rfl, rfl, hb⟩
     ·have h2 : (vals 2) = .int .i64 c := hV (2, 69) (by decide)
      have h4 : (vals 4) = .string (msg 81 (msgR q)) := hV (4, 71) (by decide)
      clear hV hnf hi
      refine ⟨_, rfl, Or.inl ⟨by rfl, Or.inl ⟨.agg #[.int .i64 1, .int .i64 c, .string (msg 81 (msgR q))], wc, ?_, rfl, (Below.refl _ _)⟩⟩⟩
      (try simp only [putF, List.getD_cons_succ, List.getD_cons_zero, Go.Act.put, sTA, sCZ, sCS, h2, h4])
      go_simp
      try rfl
     ·have h5 : (vals 5) = .agg #[.int .i64 1, .int .i64 c, .string (msg 81 (msgR q))] := hV (5, 72) (by decide)
      clear hV hnf hi
      refine ⟨_, rfl, Or.inl ⟨by rfl, Or.inl ⟨.slice (some ⟨wc.heap.size, 0, none⟩) 1 1, (wc.alloc (.cells #[.int .i64 1, .int .i64 c, .string (msg 81 (msgR q))] 54)), ?_, ⟨_, rfl, RowTo.whole wc _ _⟩, ((Below.refl _ _).alloc (nL _) _)⟩⟩⟩
      (try simp only [putF, List.getD_cons_succ, List.getD_cons_zero, Go.Act.put, sTA, sCZ, sCS, h5])
      go_simp
      try rfl
     ·exact absurd hi (by simp)
    case bof =>
     intro i hi; cases hi
    case bfi =>
     intro vals wf hR hV
     have hS := True.intro
     have f0 : (vals 0) = .slice Aa k ca := hV 0 (by decide) (fun k hk => by simp at hk)
     have f6 : ∃ g, (vals 6) = .slice (some ⟨g, 0, none⟩) 1 1 ∧ RowTo wf g 54 3 [.int .i64 1, .int .i64 c, .string (msg 81 (msgR q))] := hV 6 (by decide) (fun k hk => by simp at hk)
     clear hV
     obtain ⟨g, e6, hg⟩ := f6
     (try simp only [putF, List.getD_cons_succ, List.getD_cons_zero, Go.Act.put, sTA, sCZ, sCS, f0, e6])
     obtain ⟨aa, w7, hrun, two7, hb7⟩ := (HF5.out.1.below hR).appA (actOf c q) (by rw [HLL.out.1]; have := HLT.out.2; omega) (by have := hR.size; omega) (b0 := g) (by show RowTo wf g _ 3 [.int .i64 1, .int .i64 c, .string (catQ [msgR q])]; rw [catQ_one]; exact hg)
     have b7 : Below (w0.heap.size + 1 + 1 + 1) w5 w7 := (hR.mono (by omega)).trans hb7
     have H7 := jD (And.intro two7 (And.intro (HF5.out.2.2.1.below b7 HX.out.2.1) (And.intro (HF5.out.2.2.2.1.below b7 HX.out.1) (HF5.out.2.2.2.2.trans (b7.mono HX.out.2.2.2.1)))))
     have hz7 := b7.size
     have HZ7 := jD (show (w0.heap.size + 1 + 1 + 1) ≤ w7.heap.size by omega)
     obtain ⟨⟨Aa2, ca2, ea2⟩, _, _, _⟩ := two7.shape
     rw [List.length_append, HLL.out.1] at ea2
     subst ea2
     clear two7 b7 hb7 hg hR y0 y1 y2 hyl hz7
     refine wpAnyZ_one (i := 7) rfl rfl (by kernel_rfl) (fun K hK => ?_)
     (try simp only [gTA, gCZ, gCS])
     refine Lib.wp_append_run _ _ _ _ _ rfl _ _ rfl rfl _ _ hrun ?_
     have hS2 := True.intro
     refine hK.out _ _ hS2 ?_
     clear hK K hS
     have hS := hS2
     clear hS2
     (try simp only [gTA, gCZ, gCS, Act.put, sTA, sCZ, sCS])
     clear hrun
     refine wpAnyZ_last rfl rfl (by kernel_rfl) (by kernel_rfl) (fun K hK => ?_)
     (try simp only [gTA, gCZ, gCS])
     go_simp
     refine hK.out _ _ ?_
     clear hK K
     (try simp only [gTA, gCZ, gCS, Act.put, sTA, sCZ, sCS])
     go_wp2
     go_roundw
     case rel => exact ⟨k + 1, Nat.succ_le_of_lt HLT.out.1, Nat.succ_le_of_lt HLT.out.2, by go_num, _, _, by rw [HS1.out, HS2.out, HS3.out]; exact ⟨H7.out.2.2.1, H7.out.2.1, H7.out.1, H7.out.2.2.2, HX.out.1, HX.out.2.1, HZ7.out, HX.out.2.2.1, HX.out.2.2.2.1, HX.out.2.2.2.2⟩⟩
     case measure => simp [intOf]; have := HLT.out.1; omega
   ·by_cases h1 : k < l.length
    ·have h40 : ¬ k < 40 := fun h => hlt ⟨h1, h⟩
     clear hlt
     have hla : (alA c l k).length = k := alA_len hk
     have hlt' : (alT l k).length = k := alT_len hk
     obtain ⟨⟨Aa, ca, ea⟩, ⟨At, ct, et⟩, ⟨As, cs, es⟩, Ar, cr, er⟩ := hR.two.shape
     rw [hla] at ea
     rw [hlt'] at et
     subst ea et es er
     have HTS := jD (And.intro (alT_size l k) hlt')
     have hls := hR.two.lists (by rw [hla]; omega) (fun x hx => Nat.le_trans (alA_size x hx) (by omega)) (fun x hx => Nat.le_trans (alT_size l k x hx) (by omega)) (by rw [hlt']; omega)
     have hE := run_E (mode := 2) (s := n) (l := alA c l k) (by unfold setupE; have := HN.out; rw [if_neg (by omega), if_neg (by omega)]) (by rw [hla]; omega) (alA_E HC6.out)
     have HPP := jD (al_pool (mode := 2) (by decide) HC6.out HN.out.1 (Nat.le_trans HN.out.2 (by omega)) hk)
     have HS6 := jD (ran_sent 2 (n := n) (Nat.le_trans HN.out.2 (by omega)) (alA_E (c := c) (l := l) (k := k) HC6.out))
     have HRUN : Hid (Calls Tryz.prog 7 #[.agg #[.int .i64 2, .int .i64 n], .slice Aa k ca] wr (RunPost wr (ranM 2 n (alA c l k)))) := jD (run_any 2 n _ _ wr hls.1 ((HT.out.below hR.bel).up hR.bel.size) hE)
     generalize ranM 2 n (alA c l k) = m1 at *
     have HLS := jD (And.intro hls.2 hR.bel)
     obtain ⟨x0, x1⟩ := cells2 hR.u
     have hUl := hR.u.lt
     have HX0 := jD hR.x
     clear hls hE hR hla
     go_wp2_with fail
     refine HRUN.out.mono ?_
     rintro e1 w1 ⟨o1, o2, o3, rfl, ho, hb1⟩
     have hbw := bel_add' HLS.out.2 hb1 HLS.out.2.size
     obtain ⟨A1, c1, rfl, _⟩ := ho.s.form
     obtain ⟨A2, c2, rfl, _⟩ := ho.d.form
     obtain ⟨A3, c3, rfl, _⟩ := ho.r.form
     have n1 := (Below.refl w1.heap.size w1).alloc (nL _) (.cells #[.slice A1 m1.sent.length c1, .slice A2 m1.deeds.length c2, .slice A3 m1.e.w.rows.length c3] 29)
     have HO := jD (OutAt.new ho hbw)
     have HX1 := jD ((HX0.out.below hb1 HX0.out.lt).below n1 (HX0.out.below hb1 HX0.out.lt).lt)
     have HW1 := jD (And.intro ((HLS.out.1.1.step hb1).step n1) ((HLS.out.1.2.step hb1).step n1))
     have hsl : ((m1.sent.length : Int) != 6) = false := by rw [HS6.out]; rfl
     clear ho hb1 hbw n1 HRUN HLS HX0 x0 x1 hUl
     obtain ⟨W, HW⟩ : ∃ u, Hid ((w1.alloc (.cells #[.slice A1 m1.sent.length c1, .slice A2 m1.deeds.length c2, .slice A3 m1.e.w.rows.length c3] 29)) = u) := ⟨_, jD rfl⟩
     obtain ⟨p0, p1, p2⟩ := cells3 HO.out.o
     go_wp2_with fail
     rw [HW.out] at HO HX1 HW1 p0 p1 p2 ⊢
     clear HW
     have h6 : c < m1.sent.length := by rw [HS6.out]; exact HC6.out
     have h6I : (c : Int) < (m1.sent.length : Int) := by omega
     obtain ⟨qs, us, rfl, hqs, cs⟩ := HO.out.s.pt h6
     have e0 : m1.sent[c] = catM (alT l k) := by have h := HPP.out.1; rw [List.getD_eq_getElem?_getD, List.getElem?_eq_getElem h6] at h; exact h
     rw [e0] at cs
     have hrw : m1.e.w.rows = (alW l k).rows := HPP.out.2.2
     have HDL := jD HPP.out.2.1
     have HAN := jD (fun wc => answers_any (alT l k) wc HTS.out.1 (by rw [HTS.out.2]; omega))
     rw [hrw] at HO p2
     have HOR := jD HO.out.r
     have hpl := HO.out.o.lt
     have hqW : qs < W.heap.size := Nat.lt_of_lt_of_le hqs HO.out.bb
     have hds : (m1.deeds.length : Int) = (k : Int) := by rw [HPP.out.2.1]
     clear e0 hrw HPP
     generalize (alW l k).rows = rws at *
     refine wp_free 11 [9] [] [] [(0, 90), (1, 91), (2, 92), (3, 93), (4, 94), (5, 95), (6, 96), (7, 89), (8, 97), (9, 98)] [[], [(0, 90)], [], [(2, 92)], [(1, 91), (3, 93)], [(4, 94)], [(5, 95)], [(6, 96)], [(7, 89)], [(7, 89)]] (fun i v w => match i with | 0 => v = .pointer (some ⟨w1.heap.size, 0, none⟩) | 1 => v = .slice (some ⟨qs, us, none⟩) m1.sent.length c1 | 2 => v = .int .i64 srv | 3 => v = .int .i64 c | 4 => v = .pointer (some ⟨qs, us + c, none⟩) | 5 => v = .string (catM (alT l k)) | 6 => ∃ va, v = .tuple #[va, .bool true] ∧ ∃ w0, w0.heap.size ≤ w.heap.size ∧ OwnT w0 w va (alT l k) | 7 => ∃ va, v = .tuple #[va, .bool true] ∧ ∃ w0, w0.heap.size ≤ w.heap.size ∧ OwnT w0 w va (alT l k) | 8 => ∃ w0, w0.heap.size ≤ w.heap.size ∧ OwnT w0 w v (alT l k) | 9 => v = .bool true | _ => True) (fun _ w w' => Below w.heap.size w w') (fun wc => Below W.heap.size W wc) 2 (by kernel_rfl) (by rfl) (by kernel_rfl) (fun _ _ _ _ _ h => h) (Below.refl _ _).drew (fun _ _ => Below.refl _ _) ?bxmo (fun k w w' h hb => bel_trans h hb) ?bxob ?bxof ?bxfi
     case bxmo =>
      intro k i v w w' hk1 hk2 hk3 h hb
      rcases i with _ | _ | _ | _ | _ | _ | _ | _ | _ | _ | i
      ·exact h
      ·exact h
      ·exact h
      ·exact h
      ·exact h
      ·exact h
      ·obtain ⟨va, e, w0, h0, ho⟩ := h; exact ⟨va, e, w0, Nat.le_trans h0 hb.size, ho.below hb⟩
      ·obtain ⟨va, e, w0, h0, ho⟩ := h; exact ⟨va, e, w0, Nat.le_trans h0 hb.size, ho.below hb⟩
      ·obtain ⟨w0, h0, ho⟩ := h; exact ⟨w0, Nat.le_trans h0 hb.size, ho.below hb⟩
      ·exact h
      ·exact h
     case bxob =>
      intro i hi hnf vals wc hR hV
      rcases i with _ | _ | _ | _ | _ | _ | _ | _ | _ | _ | i
      ·clear hV hnf hi
       refine ⟨_, rfl, Or.inl ⟨by rfl, Or.inl ⟨.pointer (some ⟨w1.heap.size, 0, none⟩), wc, ?_, rfl, (Below.refl _ _)⟩⟩⟩
       (try simp only [putF, List.getD_cons_succ, List.getD_cons_zero, Go.Act.put, sTA, sCZ, sCS])
       go_simp
       try rfl
      ·have h0 : (vals 0) = .pointer (some ⟨w1.heap.size, 0, none⟩) := hV (0, 90) (by decide)
       clear hV hnf hi
       have q0 := (hR.cell (p := ⟨w1.heap.size, 0, none⟩) hpl).trans p0
       refine ⟨_, rfl, Or.inl ⟨by rfl, Or.inl ⟨.slice (some ⟨qs, us, none⟩) m1.sent.length c1, wc, ?_, rfl, (Below.refl _ _)⟩⟩⟩
       (try simp only [putF, List.getD_cons_succ, List.getD_cons_zero, Go.Act.put, sTA, sCZ, sCS, h0])
       go_simp
       try rfl
      ·clear hV hnf hi
       refine ⟨_, rfl, Or.inl ⟨by rfl, Or.inl ⟨.int .i64 srv, wc, ?_, rfl, (Below.refl _ _)⟩⟩⟩
       (try simp only [putF, List.getD_cons_succ, List.getD_cons_zero, Go.Act.put, sTA, sCZ, sCS])
       go_simp
       try rfl
      ·have h2 : (vals 2) = .int .i64 srv := hV (2, 92) (by decide)
       clear hV hnf hi
       refine ⟨_, rfl, Or.inl ⟨by rfl, Or.inr ⟨14, #[.int .i64 srv, .int .i64 6], ?_, ?_⟩⟩⟩
       ·(try simp only [putF, List.getD_cons_succ, List.getD_cons_zero, Go.Act.put, sTA, sCZ, sCS, h2])
        go_simp
        try rfl
       ·refine (HP.out wc).mono ?_
        rintro e w' ⟨rfl, rfl⟩
        exact ⟨_, rfl, rfl, Below.refl _ _⟩
      ·have h1 : (vals 1) = .slice (some ⟨qs, us, none⟩) m1.sent.length c1 := hV (1, 91) (by decide)
       have h3 : (vals 3) = .int .i64 c := hV (3, 93) (by decide)
       clear hV hnf hi
       refine ⟨_, rfl, Or.inl ⟨by rfl, Or.inl ⟨.pointer (some ⟨qs, us + c, none⟩), wc, ?_, rfl, (Below.refl _ _)⟩⟩⟩
       (try simp only [putF, List.getD_cons_succ, List.getD_cons_zero, Go.Act.put, sTA, sCZ, sCS, h1, h3])
       go_simp
       try rfl
      ·have h4 : (vals 4) = .pointer (some ⟨qs, us + c, none⟩) := hV (4, 94) (by decide)
       clear hV hnf hi
       have q0 := (hR.cell (p := ⟨qs, us + c, none⟩) hqW).trans cs
       refine ⟨_, rfl, Or.inl ⟨by rfl, Or.inl ⟨.string (catM (alT l k)), wc, ?_, rfl, (Below.refl _ _)⟩⟩⟩
       (try simp only [putF, List.getD_cons_succ, List.getD_cons_zero, Go.Act.put, sTA, sCZ, sCS, h4])
       go_simp
       try rfl
      ·have h5 : (vals 5) = .string (catM (alT l k)) := hV (5, 95) (by decide)
       clear hV hnf hi
       refine ⟨_, rfl, Or.inl ⟨by rfl, Or.inr ⟨16, #[.string (catM (alT l k))], ?_, ?_⟩⟩⟩
       ·(try simp only [putF, List.getD_cons_succ, List.getD_cons_zero, Go.Act.put, sTA, sCZ, sCS, h5])
        go_simp
        try rfl
       ·refine (HAN.out wc).mono ?_
        rintro e w' ⟨va, rfl, ho, hb⟩
        exact ⟨_, rfl, ⟨va, rfl, wc, hb.size, ho⟩, hb⟩
      ·have h6 : ∃ va, (vals 6) = .tuple #[va, .bool true] ∧ ∃ w0, w0.heap.size ≤ wc.heap.size ∧ OwnT w0 wc va (alT l k) := hV (6, 96) (by decide)
       clear hV hnf hi
       refine ⟨_, rfl, Or.inl ⟨by rfl, Or.inl ⟨(vals 6), wc, ?_, h6, (Below.refl _ _)⟩⟩⟩
       (try simp only [putF, List.getD_cons_succ, List.getD_cons_zero, Go.Act.put, sTA, sCZ, sCS])
       go_simp
       try rfl
      ·have h7 : ∃ va, (vals 7) = .tuple #[va, .bool true] ∧ ∃ w0, w0.heap.size ≤ wc.heap.size ∧ OwnT w0 wc va (alT l k) := hV (7, 89) (by decide)
       clear hV hnf hi
       obtain ⟨va, e7, ho⟩ := h7
       refine ⟨_, rfl, Or.inl ⟨by rfl, Or.inl ⟨va, wc, ?_, ho, (Below.refl _ _)⟩⟩⟩
       (try simp only [putF, List.getD_cons_succ, List.getD_cons_zero, Go.Act.put, sTA, sCZ, sCS, e7])
       go_simp
       try rfl
      ·exact absurd (by decide) hnf
      ·exact absurd hi (by simp)
     case bxof =>
      intro i hi vals wc hR hV
      obtain rfl := List.mem_singleton.1 hi
      ·have h7 : ∃ va, (vals 7) = .tuple #[va, .bool true] ∧ ∃ w0, w0.heap.size ≤ wc.heap.size ∧ OwnT w0 wc va (alT l k) := hV (7, 89) (by decide)
       clear hV hi
       obtain ⟨va, e7, ho⟩ := h7
       refine ⟨_, .bool true, rfl, by rfl, fun w' => ?_, rfl⟩
       (try simp only [putF, List.getD_cons_succ, List.getD_cons_zero, Go.Act.put, sTA, sCZ, sCS, e7])
       go_simp
       try rfl
     case bxfi =>
      intro vals wf hR hV
      have hS := True.intro
      have f8 : ∃ w0, w0.heap.size ≤ wf.heap.size ∧ OwnT w0 wf (vals 8) (alT l k) := hV 8 (by decide) (fun k hk => by simp at hk)
      have f9 : (vals 9) = .bool true := hV 9 (by decide) (fun k hk => by simp at hk)
      clear hV
      obtain ⟨w0', hw0', ho⟩ := f8
      obtain ⟨Ag, cg, eg, _⟩ := ho.shape
      rw [HTS.out.2] at eg
      rw [eg] at ho
      (try simp only [putF, List.getD_cons_succ, List.getD_cons_zero, Go.Act.put, sTA, sCZ, sCS, eg, f9])
      have HG9 := jD (ho.lst (fun t ht => Nat.le_trans (HTS.out.1 t ht) (by omega)) (by rw [HTS.out.2]; omega))
      have hpb := hR.cell (p := ⟨w1.heap.size, 2, none⟩) hpl
      have HOB := jD (HO.out.below hR)
      have HXB := jD (HX1.out.below hR HX1.out.lt)
      have HWB := jD (And.intro (HW1.out.1.step hR) (HW1.out.2.step hR))
      have HRB := jD ((HOR.out.below (hR.mono HO.out.bb)).more (Nat.le_trans HO.out.bb hR.size))
      clear ho hpb hR
      refine wpAnyZ_one (i := 10) rfl rfl (by kernel_rfl) (fun K hK => ?_)
      (try simp only [gTA, gCZ, gCS])
      go_simp
      have hS2 := True.intro
      refine hK.out _ _ hS2 ?_
      clear hK K hS
      have hS := hS2
      clear hS2
      (try simp only [gTA, gCZ, gCS, Act.put, sTA, sCZ, sCS])
      refine wpAnyZ_last rfl rfl (by kernel_rfl) (by kernel_rfl) (fun K hK => ?_)
      (try simp only [gTA, gCZ, gCS])
      go_simp
      refine hK.out _ _ ?_
      clear hK K
      (try simp only [gTA, gCZ, gCS, Act.put, sTA, sCZ, sCS])
      clear p0 p1 p2 cs hqW hpl h6 h6I HX1 HO HOR HAN
      obtain ⟨p0, p1, p2⟩ := cells3 HOB.out.o
      obtain ⟨x0, x1⟩ := cells2 HXB.out
      have hpl := HOB.out.o.lt
      have hxl := HXB.out.lt
      go_wp2_with fail
      refine (equalS_same _ _ (alT l k) _ _ HG9.out HWB.out.1).mono ?_
      rintro e8 w8 ⟨rfl, k1, rfl⟩
      have hnD := below_drewN (Below.refl wf.heap.size wf) k1
      obtain ⟨wD, HWD⟩ : ∃ u, Hid (wf.drewN k1 = u) := ⟨_, jD rfl⟩
      rw [HWD.out] at hnD ⊢
      have HOD := jD (HOB.out.below hnD)
      have HXD := jD (HXB.out.below hnD HXB.out.lt)
      have HRD := jD (HWB.out.2.step hnD)
      have HSD := jD (HRB.out.step hnD)
      clear p0 p1 p2 x0 x1 hpl hxl hnD HWD HG9 HWB HRB HXB HOB
      obtain ⟨p0, p1, p2⟩ := cells3 HOD.out.o
      obtain ⟨x0, x1⟩ := cells2 HXD.out
      have hpl := HOD.out.o.lt
      have hxl := HXD.out.lt
      go_wp2_with fail
      refine (equalP_same _ _ rws _ _ HSD.out HRD.out).mono ?_
      rintro e9 w9 ⟨rfl, k2, rfl⟩
      go_wp2
      go_ret
      exact ⟨rfl, below_drewN HOD.out.bel _⟩
    ·clear hlt
     have hla : (alA c l k).length = k := alA_len hk
     have hlt' : (alT l k).length = k := alT_len hk
     obtain ⟨⟨Aa, ca, ea⟩, ⟨At, ct, et⟩, ⟨As, cs, es⟩, Ar, cr, er⟩ := hR.two.shape
     rw [hla] at ea
     rw [hlt'] at et
     subst ea et es er
     have HTS := jD (And.intro (alT_size l k) hlt')
     have hls := hR.two.lists (by rw [hla]; omega) (fun x hx => Nat.le_trans (alA_size x hx) (by omega)) (fun x hx => Nat.le_trans (alT_size l k x hx) (by omega)) (by rw [hlt']; omega)
     have hE := run_E (mode := 2) (s := n) (l := alA c l k) (by unfold setupE; have := HN.out; rw [if_neg (by omega), if_neg (by omega)]) (by rw [hla]; omega) (alA_E HC6.out)
     have HPP := jD (al_pool (mode := 2) (by decide) HC6.out HN.out.1 (Nat.le_trans HN.out.2 (by omega)) hk)
     have HS6 := jD (ran_sent 2 (n := n) (Nat.le_trans HN.out.2 (by omega)) (alA_E (c := c) (l := l) (k := k) HC6.out))
     have HRUN : Hid (Calls Tryz.prog 7 #[.agg #[.int .i64 2, .int .i64 n], .slice Aa k ca] wr (RunPost wr (ranM 2 n (alA c l k)))) := jD (run_any 2 n _ _ wr hls.1 ((HT.out.below hR.bel).up hR.bel.size) hE)
     generalize ranM 2 n (alA c l k) = m1 at *
     have HLS := jD (And.intro hls.2 hR.bel)
     obtain ⟨x0, x1⟩ := cells2 hR.u
     have hUl := hR.u.lt
     have HX0 := jD hR.x
     clear hls hE hR hla
     go_wp2_with fail
     refine HRUN.out.mono ?_
     rintro e1 w1 ⟨o1, o2, o3, rfl, ho, hb1⟩
     have hbw := bel_add' HLS.out.2 hb1 HLS.out.2.size
     obtain ⟨A1, c1, rfl, _⟩ := ho.s.form
     obtain ⟨A2, c2, rfl, _⟩ := ho.d.form
     obtain ⟨A3, c3, rfl, _⟩ := ho.r.form
     have n1 := (Below.refl w1.heap.size w1).alloc (nL _) (.cells #[.slice A1 m1.sent.length c1, .slice A2 m1.deeds.length c2, .slice A3 m1.e.w.rows.length c3] 29)
     have HO := jD (OutAt.new ho hbw)
     have HX1 := jD ((HX0.out.below hb1 HX0.out.lt).below n1 (HX0.out.below hb1 HX0.out.lt).lt)
     have HW1 := jD (And.intro ((HLS.out.1.1.step hb1).step n1) ((HLS.out.1.2.step hb1).step n1))
     have hsl : ((m1.sent.length : Int) != 6) = false := by rw [HS6.out]; rfl
     clear ho hb1 hbw n1 HRUN HLS HX0 x0 x1 hUl
     obtain ⟨W, HW⟩ : ∃ u, Hid ((w1.alloc (.cells #[.slice A1 m1.sent.length c1, .slice A2 m1.deeds.length c2, .slice A3 m1.e.w.rows.length c3] 29)) = u) := ⟨_, jD rfl⟩
     obtain ⟨p0, p1, p2⟩ := cells3 HO.out.o
     go_wp2_with fail
     rw [HW.out] at HO HX1 HW1 p0 p1 p2 ⊢
     clear HW
     have h6 : c < m1.sent.length := by rw [HS6.out]; exact HC6.out
     have h6I : (c : Int) < (m1.sent.length : Int) := by omega
     obtain ⟨qs, us, rfl, hqs, cs⟩ := HO.out.s.pt h6
     have e0 : m1.sent[c] = catM (alT l k) := by have h := HPP.out.1; rw [List.getD_eq_getElem?_getD, List.getElem?_eq_getElem h6] at h; exact h
     rw [e0] at cs
     have hrw : m1.e.w.rows = (alW l k).rows := HPP.out.2.2
     have HDL := jD HPP.out.2.1
     have HAN := jD (fun wc => answers_any (alT l k) wc HTS.out.1 (by rw [HTS.out.2]; omega))
     rw [hrw] at HO p2
     have HOR := jD HO.out.r
     have hpl := HO.out.o.lt
     have hqW : qs < W.heap.size := Nat.lt_of_lt_of_le hqs HO.out.bb
     have hds : (m1.deeds.length : Int) = (k : Int) := by rw [HPP.out.2.1]
     clear e0 hrw HPP
     generalize (alW l k).rows = rws at *
     refine wp_free 11 [9] [] [] [(0, 90), (1, 91), (2, 92), (3, 93), (4, 94), (5, 95), (6, 96), (7, 89), (8, 97), (9, 98)] [[], [(0, 90)], [], [(2, 92)], [(1, 91), (3, 93)], [(4, 94)], [(5, 95)], [(6, 96)], [(7, 89)], [(7, 89)]] (fun i v w => match i with | 0 => v = .pointer (some ⟨w1.heap.size, 0, none⟩) | 1 => v = .slice (some ⟨qs, us, none⟩) m1.sent.length c1 | 2 => v = .int .i64 srv | 3 => v = .int .i64 c | 4 => v = .pointer (some ⟨qs, us + c, none⟩) | 5 => v = .string (catM (alT l k)) | 6 => ∃ va, v = .tuple #[va, .bool true] ∧ ∃ w0, w0.heap.size ≤ w.heap.size ∧ OwnT w0 w va (alT l k) | 7 => ∃ va, v = .tuple #[va, .bool true] ∧ ∃ w0, w0.heap.size ≤ w.heap.size ∧ OwnT w0 w va (alT l k) | 8 => ∃ w0, w0.heap.size ≤ w.heap.size ∧ OwnT w0 w v (alT l k) | 9 => v = .bool true | _ => True) (fun _ w w' => Below w.heap.size w w') (fun wc => Below W.heap.size W wc) 2 (by kernel_rfl) (by rfl) (by kernel_rfl) (fun _ _ _ _ _ h => h) (Below.refl _ _).drew (fun _ _ => Below.refl _ _) ?bymo (fun k w w' h hb => bel_trans h hb) ?byob ?byof ?byfi
     case bymo =>
      intro k i v w w' hk1 hk2 hk3 h hb
      rcases i with _ | _ | _ | _ | _ | _ | _ | _ | _ | _ | i
      ·exact h
      ·exact h
      ·exact h
      ·exact h
      ·exact h
      ·exact h
      ·obtain ⟨va, e, w0, h0, ho⟩ := h; exact ⟨va, e, w0, Nat.le_trans h0 hb.size, ho.below hb⟩
      ·obtain ⟨va, e, w0, h0, ho⟩ := h; exact ⟨va, e, w0, Nat.le_trans h0 hb.size, ho.below hb⟩
      ·obtain ⟨w0, h0, ho⟩ := h; exact ⟨w0, Nat.le_trans h0 hb.size, ho.below hb⟩
      ·exact h
      ·exact h
     case byob =>
      intro i hi hnf vals wc hR hV
      rcases i with _ | _ | _ | _ | _ | _ | _ | _ | _ | _ | i
      ·clear hV hnf hi
       refine ⟨_, rfl, Or.inl ⟨by rfl, Or.inl ⟨.pointer (some ⟨w1.heap.size, 0, none⟩), wc, ?_, rfl, (Below.refl _ _)⟩⟩⟩
       (try simp only [putF, List.getD_cons_succ, List.getD_cons_zero, Go.Act.put, sTA, sCZ, sCS])
       go_simp
       try rfl
      ·have h0 : (vals 0) = .pointer (some ⟨w1.heap.size, 0, none⟩) := hV (0, 90) (by decide)
       clear hV hnf hi
       have q0 := (hR.cell (p := ⟨w1.heap.size, 0, none⟩) hpl).trans p0
       refine ⟨_, rfl, Or.inl ⟨by rfl, Or.inl ⟨.slice (some ⟨qs, us, none⟩) m1.sent.length c1, wc, ?_, rfl, (Below.refl _ _)⟩⟩⟩
       (try simp only [putF, List.getD_cons_succ, List.getD_cons_zero, Go.Act.put, sTA, sCZ, sCS, h0])
       go_simp
       try rfl
      ·clear hV hnf hi
       refine ⟨_, rfl, Or.inl ⟨by rfl, Or.inl ⟨.int .i64 srv, wc, ?_, rfl, (Below.refl _ _)⟩⟩⟩
       (try simp only [putF, List.getD_cons_succ, List.getD_cons_zero, Go.Act.put, sTA, sCZ, sCS])
       go_simp
       try rfl
      ·have h2 : (vals 2) = .int .i64 srv := hV (2, 92) (by decide)
       clear hV hnf hi
       refine ⟨_, rfl, Or.inl ⟨by rfl, Or.inr ⟨14, #[.int .i64 srv, .int .i64 6], ?_, ?_⟩⟩⟩
       ·(try simp only [putF, List.getD_cons_succ, List.getD_cons_zero, Go.Act.put, sTA, sCZ, sCS, h2])
        go_simp
        try rfl
       ·refine (HP.out wc).mono ?_
        rintro e w' ⟨rfl, rfl⟩
        exact ⟨_, rfl, rfl, Below.refl _ _⟩
      ·have h1 : (vals 1) = .slice (some ⟨qs, us, none⟩) m1.sent.length c1 := hV (1, 91) (by decide)
       have h3 : (vals 3) = .int .i64 c := hV (3, 93) (by decide)
       clear hV hnf hi
       refine ⟨_, rfl, Or.inl ⟨by rfl, Or.inl ⟨.pointer (some ⟨qs, us + c, none⟩), wc, ?_, rfl, (Below.refl _ _)⟩⟩⟩
       (try simp only [putF, List.getD_cons_succ, List.getD_cons_zero, Go.Act.put, sTA, sCZ, sCS, h1, h3])
       go_simp
       try rfl
      ·have h4 : (vals 4) = .pointer (some ⟨qs, us + c, none⟩) := hV (4, 94) (by decide)
       clear hV hnf hi
       have q0 := (hR.cell (p := ⟨qs, us + c, none⟩) hqW).trans cs
       refine ⟨_, rfl, Or.inl ⟨by rfl, Or.inl ⟨.string (catM (alT l k)), wc, ?_, rfl, (Below.refl _ _)⟩⟩⟩
       (try simp only [putF, List.getD_cons_succ, List.getD_cons_zero, Go.Act.put, sTA, sCZ, sCS, h4])
       go_simp
       try rfl
      ·have h5 : (vals 5) = .string (catM (alT l k)) := hV (5, 95) (by decide)
       clear hV hnf hi
       refine ⟨_, rfl, Or.inl ⟨by rfl, Or.inr ⟨16, #[.string (catM (alT l k))], ?_, ?_⟩⟩⟩
       ·(try simp only [putF, List.getD_cons_succ, List.getD_cons_zero, Go.Act.put, sTA, sCZ, sCS, h5])
        go_simp
        try rfl
       ·refine (HAN.out wc).mono ?_
        rintro e w' ⟨va, rfl, ho, hb⟩
        exact ⟨_, rfl, ⟨va, rfl, wc, hb.size, ho⟩, hb⟩
      ·have h6 : ∃ va, (vals 6) = .tuple #[va, .bool true] ∧ ∃ w0, w0.heap.size ≤ wc.heap.size ∧ OwnT w0 wc va (alT l k) := hV (6, 96) (by decide)
       clear hV hnf hi
       refine ⟨_, rfl, Or.inl ⟨by rfl, Or.inl ⟨(vals 6), wc, ?_, h6, (Below.refl _ _)⟩⟩⟩
       (try simp only [putF, List.getD_cons_succ, List.getD_cons_zero, Go.Act.put, sTA, sCZ, sCS])
       go_simp
       try rfl
      ·have h7 : ∃ va, (vals 7) = .tuple #[va, .bool true] ∧ ∃ w0, w0.heap.size ≤ wc.heap.size ∧ OwnT w0 wc va (alT l k) := hV (7, 89) (by decide)
       clear hV hnf hi
       obtain ⟨va, e7, ho⟩ := h7
       refine ⟨_, rfl, Or.inl ⟨by rfl, Or.inl ⟨va, wc, ?_, ho, (Below.refl _ _)⟩⟩⟩
       (try simp only [putF, List.getD_cons_succ, List.getD_cons_zero, Go.Act.put, sTA, sCZ, sCS, e7])
       go_simp
       try rfl
      ·exact absurd (by decide) hnf
      ·exact absurd hi (by simp)
     case byof =>
      intro i hi vals wc hR hV
      obtain rfl := List.mem_singleton.1 hi
      ·have h7 : ∃ va, (vals 7) = .tuple #[va, .bool true] ∧ ∃ w0, w0.heap.size ≤ wc.heap.size ∧ OwnT w0 wc va (alT l k) := hV (7, 89) (by decide)
       clear hV hi
       obtain ⟨va, e7, ho⟩ := h7
       refine ⟨_, .bool true, rfl, by rfl, fun w' => ?_, rfl⟩
       (try simp only [putF, List.getD_cons_succ, List.getD_cons_zero, Go.Act.put, sTA, sCZ, sCS, e7])
       go_simp
       try rfl
     case byfi =>
      intro vals wf hR hV
      have hS := True.intro
      have f8 : ∃ w0, w0.heap.size ≤ wf.heap.size ∧ OwnT w0 wf (vals 8) (alT l k) := hV 8 (by decide) (fun k hk => by simp at hk)
      have f9 : (vals 9) = .bool true := hV 9 (by decide) (fun k hk => by simp at hk)
      clear hV
      obtain ⟨w0', hw0', ho⟩ := f8
      obtain ⟨Ag, cg, eg, _⟩ := ho.shape
      rw [HTS.out.2] at eg
      rw [eg] at ho
      (try simp only [putF, List.getD_cons_succ, List.getD_cons_zero, Go.Act.put, sTA, sCZ, sCS, eg, f9])
      have HG9 := jD (ho.lst (fun t ht => Nat.le_trans (HTS.out.1 t ht) (by omega)) (by rw [HTS.out.2]; omega))
      have hpb := hR.cell (p := ⟨w1.heap.size, 2, none⟩) hpl
      have HOB := jD (HO.out.below hR)
      have HXB := jD (HX1.out.below hR HX1.out.lt)
      have HWB := jD (And.intro (HW1.out.1.step hR) (HW1.out.2.step hR))
      have HRB := jD ((HOR.out.below (hR.mono HO.out.bb)).more (Nat.le_trans HO.out.bb hR.size))
      clear ho hpb hR
      refine wpAnyZ_one (i := 10) rfl rfl (by kernel_rfl) (fun K hK => ?_)
      (try simp only [gTA, gCZ, gCS])
      go_simp
      have hS2 := True.intro
      refine hK.out _ _ hS2 ?_
      clear hK K hS
      have hS := hS2
      clear hS2
      (try simp only [gTA, gCZ, gCS, Act.put, sTA, sCZ, sCS])
      refine wpAnyZ_last rfl rfl (by kernel_rfl) (by kernel_rfl) (fun K hK => ?_)
      (try simp only [gTA, gCZ, gCS])
      go_simp
      refine hK.out _ _ ?_
      clear hK K
      (try simp only [gTA, gCZ, gCS, Act.put, sTA, sCZ, sCS])
      clear p0 p1 p2 cs hqW hpl h6 h6I HX1 HO HOR HAN
      obtain ⟨p0, p1, p2⟩ := cells3 HOB.out.o
      obtain ⟨x0, x1⟩ := cells2 HXB.out
      have hpl := HOB.out.o.lt
      have hxl := HXB.out.lt
      go_wp2_with fail
      refine (equalS_same _ _ (alT l k) _ _ HG9.out HWB.out.1).mono ?_
      rintro e8 w8 ⟨rfl, k1, rfl⟩
      have hnD := below_drewN (Below.refl wf.heap.size wf) k1
      obtain ⟨wD, HWD⟩ : ∃ u, Hid (wf.drewN k1 = u) := ⟨_, jD rfl⟩
      rw [HWD.out] at hnD ⊢
      have HOD := jD (HOB.out.below hnD)
      have HXD := jD (HXB.out.below hnD HXB.out.lt)
      have HRD := jD (HWB.out.2.step hnD)
      have HSD := jD (HRB.out.step hnD)
      clear p0 p1 p2 x0 x1 hpl hxl hnD HWD HG9 HWB HRB HXB HOB
      obtain ⟨p0, p1, p2⟩ := cells3 HOD.out.o
      obtain ⟨x0, x1⟩ := cells2 HXD.out
      have hpl := HOD.out.o.lt
      have hxl := HXD.out.lt
      go_wp2_with fail
      refine (equalP_same _ _ rws _ _ HSD.out HRD.out).mono ?_
      rintro e9 w9 ⟨rfl, k2, rfl⟩
      go_wp2
      go_ret
      exact ⟨rfl, below_drewN HOD.out.bel _⟩
end Go.Proofs.YtpbaobmegomfpabGreatDoor
