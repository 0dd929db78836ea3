/-
  Texts of the proof, one behind the other: RefD.
-/
import Derived.Test.YtpbaobmegomfpabGreatDoorTPoolRuns5
import Derived.Test.YtpbaobmegomfpabGreatDoorTPoolRuns3
import Derived.StillTailTactics
set_option linter.unusedVariables false
set_option linter.unusedSimpArgs false
set_option maxRecDepth 100000
open List renaming getElem_toArray → gTA, getElem_cons_zero → gCZ, getElem_cons_succ → gCS, setIfInBounds_toArray → sTA, set_cons_zero → sCZ, set_cons_succ → sCS
open Go.Lib renaming hid → jD
open Nat renaming le_refl → nL
namespace Go.Proofs.YtpbaobmegomfpabGreatDoor
open Go.RowKit
set_option maxHeartbeats 40000000 in
theorem didz_gen {Q : Nat → Prop} (S cap : Nat) (r : Value) (W : Wd) (i : Nat) (k : Int) (key val : ByteArray) (w : World) (h : RefP Q w S cap r W) (hw : WorldOk W) (hQ : ∀ b, Q b → b ≠ S) (hN : ∀ b, w.heap.size ≤ b → Q b) (hi : i < W.ss.length) (hkz : key.size ≤ 8) (hvz : val.size ≤ 60) (h1 : 1 ≤ k) (h2 : k ≤ 11)
  (hrec : k = 8 → ∀ k2 key2 val2, k2 ≠ 8 → checkE k2 key2 val2 = 0 → ∀ w9, RefP Q w9 S cap r W → (∀ b, w9.heap.size ≤ b → Q b) → Calls Tryz.prog 105 #[.agg #[r, slc S W.ss.length cap], .int .i64 i, .agg #[.int .i64 k2, .string key2, .string val2]] w9 (DidZ Q w9 S cap W.ss.length (did1 W i k2 key2 val2))) :
  Calls Tryz.prog 105 #[.agg #[r, slc S W.ss.length cap], .int .i64 i, .agg #[.int .i64 k, .string key, .string val]] w (DidZ Q w S cap W.ss.length (didM W i k key val)) := by
 obtain ⟨v1, v2, v3, v4, hs⟩ := h.ses i hi
 obtain ⟨D, d, rfl, hd⟩ := h.rows.form
 obtain ⟨s, he⟩ : ∃ s, W.ss[i] = s := ⟨_, rfl⟩
 rw [he] at hs
 obtain ⟨A1, n1, rfl, _⟩ := hs.core.l1.form
 obtain ⟨A2, n2, rfl, _⟩ := hs.core.l2.form
 obtain ⟨A3, n3, rfl, _⟩ := hs.core.l3.form
 obtain ⟨A4, n4, rfl, _⟩ := hs.core.l4.form
 have hsk := hw.sess i hi
 rw [he] at hsk
 have hSw := h.blk.lt
 have bel0 := (doAt0 w (.slice D W.rows.length d) (.slice (some ⟨S, 0, none⟩) W.ss.length cap) k key val).bel
 have c0 := (bel0.cell (p := ⟨S, i * 5, none⟩) hSw).trans hs.core.c0
 have c1 := (bel0.cell (p := ⟨S, i * 5 + 1, none⟩) hSw).trans hs.core.c1
 have c2 := (bel0.cell (p := ⟨S, i * 5 + 2, none⟩) hSw).trans hs.core.c2
 have c3 := (bel0.cell (p := ⟨S, i * 5 + 3, none⟩) hSw).trans hs.core.c3
 have c4 := (bel0.cell (p := ⟨S, i * 5 + 4, none⟩) hSw).trans hs.core.c4
 unfold doW0 at c0 c1 c2 c3 c4
 obtain ⟨W5, HW5⟩ : ∃ u, Hid (didW0 w (.slice D W.rows.length d) (.slice (some ⟨S, 0, none⟩) W.ss.length cap) k key val s.st (.slice A1 s.set.length n1) (.slice A2 s.prep.length n2) (.slice A3 s.sav.length n3) (.slice A4 s.wr.length n4) = u) := ⟨_, jD rfl⟩
 have hD := didAt0 w (.slice D W.rows.length d) (.slice (some ⟨S, 0, none⟩) W.ss.length cap) k key val s.st (.slice A1 s.set.length n1) (.slice A2 s.prep.length n2) (.slice A3 s.sav.length n3) (.slice A4 s.wr.length n4)
 rw [HW5.out] at hD
 unfold didW0 doW0 at HW5
 have hii : (i : Int) < (W.ss.length : Int) := by omega
 have HH := jD h
 have HS := jD hs
 have HW := jD hw
 have HD := jD hD
 have HQ := jD hQ
 have HN := jD hN
 have HZ := jD (And.intro hkz hvz)
 have HI := jD (And.intro hi he)
 obtain ⟨x0, x1⟩ := cells2 hD.X
 obtain ⟨y0, y1, y2⟩ := cells3 hD.Y
 obtain ⟨z0, z1, z2, z3, z4⟩ := cells5 hD.Z
 have hXl := hD.X.lt
 have hYl := hD.Y.lt
 have hZl := hD.Z.lt
 have hRE := jD (And.intro hsk (And.intro h1 h2))
 have HREC := jD hrec
 clear bel0 hs hw hD h hQ hN hkz hvz hd hsk h1 h2 hrec
 unfold slc
 refine did_split (C := fun R => Calls Tryz.prog 105 #[.agg #[.slice D W.rows.length d, .slice (some ⟨S, 0, none⟩) W.ss.length cap], .int .i64 i, .agg #[.int .i64 k, .string key, .string val]] w (DidZ Q w S cap W.ss.length R)) hi he hRE.out.1 hRE.out.2.1 hRE.out.2.2 ?c1 ?c2 ?c3 ?c4 ?c5 ?c6 ?c7 ?c8 ?c9 ?c10 ?c11 ?c12 ?c13 ?c14 ?c15 ?c16 ?c17 ?c18 ?c19 ?c20 ?c21 ?c22
 case' c1 =>
  intro a1 a2 a3
  have t0 : (s.st == 2) = true := beq_iff_eq.2 a1
  have t1 : (k == 2) = false := beq_eq_false_iff_ne.2 a2
  have t2 : (k == 3) = false := beq_eq_false_iff_ne.2 a3
  clear a1 a2 a3
  go_enter Tryz.func105, Tryz.ntmps105
  go_wp2_with fail
  rw [HW5.out]
  have HE := jD (HD.out.atE HH.out)
  obtain ⟨e0, e1⟩ := cells2 HE.out.X
  have hel := HE.out.X.lt
  clear x0 x1 y0 y1 y2 z0 z1 z2 z3 z4 hXl hYl hZl c0 c1 c2 c3 c4
  refine wp_freeX 3 [(0, 47), (1, 48)] [[], []] [.agg #[.slice D W.rows.length d, .slice (some ⟨S, 0, none⟩) W.ss.length cap], .agg #[.int .i64 4, .string tFailed, .int .i64 0]] (fun _ w w' => Below w.heap.size w w') (fun wc => Below W5.heap.size W5 wc) 2 (by kernel_rfl) (by rfl) (by kernel_rfl) (fun _ _ _ _ _ h => h) (Below.refl _ _).drew (fun _ _ => Below.refl _ _) (fun k w w' h hb => bel_trans h hb) ?n1ob ?n1fi
  case n1ob =>
   intro i hi wc hR
   have e0' := (hR.cell (p := ⟨w.heap.size, 0, none⟩) hel).trans e0
   have e1' := (hR.cell (p := ⟨w.heap.size, 1, none⟩) hel).trans e1
   by_cases hk1 : i = 1
   ·subst hk1
    refine ⟨_, rfl, ?_, Or.inr ⟨123, #[.string tFailed], ?_, ?_⟩⟩
    ·((try simp only [putF, List.getD_cons_succ, List.getD_cons_zero, Go.Act.put, sTA, sCZ, sCS]); try rfl)
    ·((try simp only [putF, List.getD_cons_succ, List.getD_cons_zero, Go.Act.put, sTA, sCZ, sCS]); go_simp; try rfl)
    ·refine (no_any tFailed wc).mono ?_
     rintro e w' ⟨rfl, hb⟩
     exact ⟨rfl, hb⟩
   rcases i with _ | _ | i
   all_goals (first | contradiction | exact ⟨_, rfl, (by (try simp only [putF, List.getD_cons_succ, List.getD_cons_zero, Go.Act.put, sTA, sCZ, sCS]); try rfl), Or.inl (by (try simp only [putF, List.getD_cons_succ, List.getD_cons_zero, Go.Act.put, sTA, sCZ, sCS]); go_simp; try rfl)⟩ | exact absurd hi (by simp))
  case n1fi =>
   intro wf hR
   have hS := True.intro
   (try simp only [putF, List.getD_cons_succ, List.getD_cons_zero, Go.Act.put, sTA, sCZ, sCS])
   obtain ⟨r0, r1⟩ := cells2 (HE.out.below hR).R
   obtain ⟨b0, b1, b2⟩ := cells3 (HE.out.below hR).A
   obtain ⟨g0, g1, _⟩ := frozen5 (HE.out.below hR).R 0
   obtain ⟨k0, k1, k2, _⟩ := frozen5 (HE.out.below hR).A 0
   simp only [Nat.zero_add] at g1 k1 k2
   have HF := jD ((HE.out.below hR).fin (no' tFailed))
   clear hR e0 e1 hel
   refine wpAnyZ_one (i := 2) rfl rfl (by kernel_rfl) (fun K hK => ?_)
   (try simp only [gTA, gCZ, gCS])
   go_simp
   have hS2 := True.intro
   refine hK.out _ _ hS2 ?_
   clear hK K hS
   have hS := hS2
   clear hS2
   (try simp only [gTA, gCZ, gCS, Act.put, sTA, sCZ, sCS])
   refine wpAnyZ_last rfl rfl (by kernel_rfl) (by kernel_rfl) (fun K hK => ?_)
   (try simp only [gTA, gCZ, gCS])
   go_simp
   refine hK.out _ _ ?_
   clear hK K
   (try simp only [gTA, gCZ, gCS, Act.put, sTA, sCZ, sCS])
   go_wp2
   refine bodyPost_ret (v := .tuple #[.agg #[.slice D W.rows.length d, .slice (some ⟨S, 0, none⟩) W.ss.length cap], .agg #[.int .i64 4, .string tFailed, .int .i64 0]]) (by simp [results, Tryz.results105, go_sem, r0, r1, b0, b1, b2]) rfl ?_
   exact HF.out _ _ _ _ _
 case' c3 =>
  intro a1 a2 a3
  subst a1
  have t0 : (s.st == 2) = false := beq_eq_false_iff_ne.2 a2
  have t1 : (s.st != 0) = true := bne_iff_ne.2 a3
  clear a2 a3
  go_enter Tryz.func105, Tryz.ntmps105
  go_wp2_with fail
  rw [HW5.out]
  have HE := jD (HD.out.atE HH.out)
  obtain ⟨e0, e1⟩ := cells2 HE.out.X
  have hel := HE.out.X.lt
  clear x0 x1 y0 y1 y2 z0 z1 z2 z3 z4 hXl hYl hZl c0 c1 c2 c3 c4
  refine wp_freeX 3 [(0, 56), (1, 57)] [[], []] [.agg #[.slice D W.rows.length d, .slice (some ⟨S, 0, none⟩) W.ss.length cap], .agg #[.int .i64 4, .string tBegun, .int .i64 0]] (fun _ w w' => Below w.heap.size w w') (fun wc => Below W5.heap.size W5 wc) 2 (by kernel_rfl) (by rfl) (by kernel_rfl) (fun _ _ _ _ _ h => h) (Below.refl _ _).drew (fun _ _ => Below.refl _ _) (fun k w w' h hb => bel_trans h hb) ?n3ob ?n3fi
  case n3ob =>
   intro i hi wc hR
   have e0' := (hR.cell (p := ⟨w.heap.size, 0, none⟩) hel).trans e0
   have e1' := (hR.cell (p := ⟨w.heap.size, 1, none⟩) hel).trans e1
   by_cases hk1 : i = 1
   ·subst hk1
    refine ⟨_, rfl, ?_, Or.inr ⟨123, #[.string tBegun], ?_, ?_⟩⟩
    ·((try simp only [putF, List.getD_cons_succ, List.getD_cons_zero, Go.Act.put, sTA, sCZ, sCS]); try rfl)
    ·((try simp only [putF, List.getD_cons_succ, List.getD_cons_zero, Go.Act.put, sTA, sCZ, sCS]); go_simp; try rfl)
    ·refine (no_any tBegun wc).mono ?_
     rintro e w' ⟨rfl, hb⟩
     exact ⟨rfl, hb⟩
   rcases i with _ | _ | i
   all_goals (first | contradiction | exact ⟨_, rfl, (by (try simp only [putF, List.getD_cons_succ, List.getD_cons_zero, Go.Act.put, sTA, sCZ, sCS]); try rfl), Or.inl (by (try simp only [putF, List.getD_cons_succ, List.getD_cons_zero, Go.Act.put, sTA, sCZ, sCS]); go_simp; try rfl)⟩ | exact absurd hi (by simp))
  case n3fi =>
   intro wf hR
   have hS := True.intro
   (try simp only [putF, List.getD_cons_succ, List.getD_cons_zero, Go.Act.put, sTA, sCZ, sCS])
   obtain ⟨r0, r1⟩ := cells2 (HE.out.below hR).R
   obtain ⟨b0, b1, b2⟩ := cells3 (HE.out.below hR).A
   obtain ⟨g0, g1, _⟩ := frozen5 (HE.out.below hR).R 0
   obtain ⟨k0, k1, k2, _⟩ := frozen5 (HE.out.below hR).A 0
   simp only [Nat.zero_add] at g1 k1 k2
   have HF := jD ((HE.out.below hR).fin (no' tBegun))
   clear hR e0 e1 hel
   refine wpAnyZ_one (i := 2) rfl rfl (by kernel_rfl) (fun K hK => ?_)
   (try simp only [gTA, gCZ, gCS])
   go_simp
   have hS2 := True.intro
   refine hK.out _ _ hS2 ?_
   clear hK K hS
   have hS := hS2
   clear hS2
   (try simp only [gTA, gCZ, gCS, Act.put, sTA, sCZ, sCS])
   refine wpAnyZ_last rfl rfl (by kernel_rfl) (by kernel_rfl) (fun K hK => ?_)
   (try simp only [gTA, gCZ, gCS])
   go_simp
   refine hK.out _ _ ?_
   clear hK K
   (try simp only [gTA, gCZ, gCS, Act.put, sTA, sCZ, sCS])
   go_wp2
   refine bodyPost_ret (v := .tuple #[.agg #[.slice D W.rows.length d, .slice (some ⟨S, 0, none⟩) W.ss.length cap], .agg #[.int .i64 4, .string tBegun, .int .i64 0]]) (by simp [results, Tryz.results105, go_sem, r0, r1, b0, b1, b2]) rfl ?_
   exact HF.out _ _ _ _ _
 case' c4 =>
  intro a1 a2
  have t0 : (s.st == 2) = false := beq_eq_false_iff_ne.2 (by omega)
  have t1 : (s.st == 0) = true := beq_iff_eq.2 a2
  clear a2
  rcases a1 with rfl | rfl
  ·go_enter Tryz.func105, Tryz.ntmps105
   go_wp2_with fail
   rw [HW5.out]
   have HE := jD (HD.out.atE HH.out)
   obtain ⟨e0, e1⟩ := cells2 HE.out.X
   have hel := HE.out.X.lt
   clear x0 x1 y0 y1 y2 z0 z1 z2 z3 z4 hXl hYl hZl c0 c1 c2 c3 c4
   refine wp_freeX 3 [(0, 69), (1, 70)] [[], []] [.agg #[.slice D W.rows.length d, .slice (some ⟨S, 0, none⟩) W.ss.length cap], .agg #[.int .i64 4, .string tNoTx, .int .i64 0]] (fun _ w w' => Below w.heap.size w w') (fun wc => Below W5.heap.size W5 wc) 2 (by kernel_rfl) (by rfl) (by kernel_rfl) (fun _ _ _ _ _ h => h) (Below.refl _ _).drew (fun _ _ => Below.refl _ _) (fun k w w' h hb => bel_trans h hb) ?n4aob ?n4afi
   case n4aob =>
    intro i hi wc hR
    have e0' := (hR.cell (p := ⟨w.heap.size, 0, none⟩) hel).trans e0
    have e1' := (hR.cell (p := ⟨w.heap.size, 1, none⟩) hel).trans e1
    by_cases hk1 : i = 1
    ·subst hk1
     refine ⟨_, rfl, ?_, Or.inr ⟨123, #[.string tNoTx], ?_, ?_⟩⟩
     ·((try simp only [putF, List.getD_cons_succ, List.getD_cons_zero, Go.Act.put, sTA, sCZ, sCS]); try rfl)
     ·((try simp only [putF, List.getD_cons_succ, List.getD_cons_zero, Go.Act.put, sTA, sCZ, sCS]); go_simp; try rfl)
     ·refine (no_any tNoTx wc).mono ?_
      rintro e w' ⟨rfl, hb⟩
      exact ⟨rfl, hb⟩
    rcases i with _ | _ | i
    all_goals (first | contradiction | exact ⟨_, rfl, (by (try simp only [putF, List.getD_cons_succ, List.getD_cons_zero, Go.Act.put, sTA, sCZ, sCS]); try rfl), Or.inl (by (try simp only [putF, List.getD_cons_succ, List.getD_cons_zero, Go.Act.put, sTA, sCZ, sCS]); go_simp; try rfl)⟩ | exact absurd hi (by simp))
   case n4afi =>
    intro wf hR
    have hS := True.intro
    (try simp only [putF, List.getD_cons_succ, List.getD_cons_zero, Go.Act.put, sTA, sCZ, sCS])
    obtain ⟨r0, r1⟩ := cells2 (HE.out.below hR).R
    obtain ⟨b0, b1, b2⟩ := cells3 (HE.out.below hR).A
    obtain ⟨g0, g1, _⟩ := frozen5 (HE.out.below hR).R 0
    obtain ⟨k0, k1, k2, _⟩ := frozen5 (HE.out.below hR).A 0
    simp only [Nat.zero_add] at g1 k1 k2
    have HF := jD ((HE.out.below hR).fin (no' tNoTx))
    clear hR e0 e1 hel
    refine wpAnyZ_one (i := 2) rfl rfl (by kernel_rfl) (fun K hK => ?_)
    (try simp only [gTA, gCZ, gCS])
    go_simp
    have hS2 := True.intro
    refine hK.out _ _ hS2 ?_
    clear hK K hS
    have hS := hS2
    clear hS2
    (try simp only [gTA, gCZ, gCS, Act.put, sTA, sCZ, sCS])
    refine wpAnyZ_last rfl rfl (by kernel_rfl) (by kernel_rfl) (fun K hK => ?_)
    (try simp only [gTA, gCZ, gCS])
    go_simp
    refine hK.out _ _ ?_
    clear hK K
    (try simp only [gTA, gCZ, gCS, Act.put, sTA, sCZ, sCS])
    go_wp2
    refine bodyPost_ret (v := .tuple #[.agg #[.slice D W.rows.length d, .slice (some ⟨S, 0, none⟩) W.ss.length cap], .agg #[.int .i64 4, .string tNoTx, .int .i64 0]]) (by simp [results, Tryz.results105, go_sem, r0, r1, b0, b1, b2]) rfl ?_
    exact HF.out _ _ _ _ _
  ·go_enter Tryz.func105, Tryz.ntmps105
   go_wp2_with fail
   rw [HW5.out]
   have HE := jD (HD.out.atE HH.out)
   obtain ⟨e0, e1⟩ := cells2 HE.out.X
   have hel := HE.out.X.lt
   clear x0 x1 y0 y1 y2 z0 z1 z2 z3 z4 hXl hYl hZl c0 c1 c2 c3 c4
   refine wp_freeX 3 [(0, 69), (1, 70)] [[], []] [.agg #[.slice D W.rows.length d, .slice (some ⟨S, 0, none⟩) W.ss.length cap], .agg #[.int .i64 4, .string tNoTx, .int .i64 0]] (fun _ w w' => Below w.heap.size w w') (fun wc => Below W5.heap.size W5 wc) 2 (by kernel_rfl) (by rfl) (by kernel_rfl) (fun _ _ _ _ _ h => h) (Below.refl _ _).drew (fun _ _ => Below.refl _ _) (fun k w w' h hb => bel_trans h hb) ?n4bob ?n4bfi
   case n4bob =>
    intro i hi wc hR
    have e0' := (hR.cell (p := ⟨w.heap.size, 0, none⟩) hel).trans e0
    have e1' := (hR.cell (p := ⟨w.heap.size, 1, none⟩) hel).trans e1
    by_cases hk1 : i = 1
    ·subst hk1
     refine ⟨_, rfl, ?_, Or.inr ⟨123, #[.string tNoTx], ?_, ?_⟩⟩
     ·((try simp only [putF, List.getD_cons_succ, List.getD_cons_zero, Go.Act.put, sTA, sCZ, sCS]); try rfl)
     ·((try simp only [putF, List.getD_cons_succ, List.getD_cons_zero, Go.Act.put, sTA, sCZ, sCS]); go_simp; try rfl)
     ·refine (no_any tNoTx wc).mono ?_
      rintro e w' ⟨rfl, hb⟩
      exact ⟨rfl, hb⟩
    rcases i with _ | _ | i
    all_goals (first | contradiction | exact ⟨_, rfl, (by (try simp only [putF, List.getD_cons_succ, List.getD_cons_zero, Go.Act.put, sTA, sCZ, sCS]); try rfl), Or.inl (by (try simp only [putF, List.getD_cons_succ, List.getD_cons_zero, Go.Act.put, sTA, sCZ, sCS]); go_simp; try rfl)⟩ | exact absurd hi (by simp))
   case n4bfi =>
    intro wf hR
    have hS := True.intro
    (try simp only [putF, List.getD_cons_succ, List.getD_cons_zero, Go.Act.put, sTA, sCZ, sCS])
    obtain ⟨r0, r1⟩ := cells2 (HE.out.below hR).R
    obtain ⟨b0, b1, b2⟩ := cells3 (HE.out.below hR).A
    obtain ⟨g0, g1, _⟩ := frozen5 (HE.out.below hR).R 0
    obtain ⟨k0, k1, k2, _⟩ := frozen5 (HE.out.below hR).A 0
    simp only [Nat.zero_add] at g1 k1 k2
    have HF := jD ((HE.out.below hR).fin (no' tNoTx))
    clear hR e0 e1 hel
    refine wpAnyZ_one (i := 2) rfl rfl (by kernel_rfl) (fun K hK => ?_)
    (try simp only [gTA, gCZ, gCS])
    go_simp
    have hS2 := True.intro
    refine hK.out _ _ hS2 ?_
    clear hK K hS
    have hS := hS2
    clear hS2
    (try simp only [gTA, gCZ, gCS, Act.put, sTA, sCZ, sCS])
    refine wpAnyZ_last rfl rfl (by kernel_rfl) (by kernel_rfl) (fun K hK => ?_)
    (try simp only [gTA, gCZ, gCS])
    go_simp
    refine hK.out _ _ ?_
    clear hK K
    (try simp only [gTA, gCZ, gCS, Act.put, sTA, sCZ, sCS])
    go_wp2
    refine bodyPost_ret (v := .tuple #[.agg #[.slice D W.rows.length d, .slice (some ⟨S, 0, none⟩) W.ss.length cap], .agg #[.int .i64 4, .string tNoTx, .int .i64 0]]) (by simp [results, Tryz.results105, go_sem, r0, r1, b0, b1, b2]) rfl ?_
    exact HF.out _ _ _ _ _
 case' c8 =>
  intro a1 a2 a3
  subst a1
  have t0 : (s.st == 2) = false := beq_eq_false_iff_ne.2 a2
  have t1 : (s.st != 0) = true := bne_iff_ne.2 a3
  clear a2 a3
  go_enter Tryz.func105, Tryz.ntmps105
  go_wp2_with fail
  rw [HW5.out]
  have HE := jD (HD.out.atE HH.out)
  obtain ⟨e0, e1⟩ := cells2 HE.out.X
  have hel := HE.out.X.lt
  clear x0 x1 y0 y1 y2 z0 z1 z2 z3 z4 hXl hYl hZl c0 c1 c2 c3 c4
  refine wp_freeX 3 [(0, 113), (1, 114)] [[], []] [.agg #[.slice D W.rows.length d, .slice (some ⟨S, 0, none⟩) W.ss.length cap], .agg #[.int .i64 4, .string tNotIn, .int .i64 0]] (fun _ w w' => Below w.heap.size w w') (fun wc => Below W5.heap.size W5 wc) 2 (by kernel_rfl) (by rfl) (by kernel_rfl) (fun _ _ _ _ _ h => h) (Below.refl _ _).drew (fun _ _ => Below.refl _ _) (fun k w w' h hb => bel_trans h hb) ?n8ob ?n8fi
  case n8ob =>
   intro i hi wc hR
   have e0' := (hR.cell (p := ⟨w.heap.size, 0, none⟩) hel).trans e0
   have e1' := (hR.cell (p := ⟨w.heap.size, 1, none⟩) hel).trans e1
   by_cases hk1 : i = 1
   ·subst hk1
    refine ⟨_, rfl, ?_, Or.inr ⟨123, #[.string tNotIn], ?_, ?_⟩⟩
    ·((try simp only [putF, List.getD_cons_succ, List.getD_cons_zero, Go.Act.put, sTA, sCZ, sCS]); try rfl)
    ·((try simp only [putF, List.getD_cons_succ, List.getD_cons_zero, Go.Act.put, sTA, sCZ, sCS]); go_simp; try rfl)
    ·refine (no_any tNotIn wc).mono ?_
     rintro e w' ⟨rfl, hb⟩
     exact ⟨rfl, hb⟩
   rcases i with _ | _ | i
   all_goals (first | contradiction | exact ⟨_, rfl, (by (try simp only [putF, List.getD_cons_succ, List.getD_cons_zero, Go.Act.put, sTA, sCZ, sCS]); try rfl), Or.inl (by (try simp only [putF, List.getD_cons_succ, List.getD_cons_zero, Go.Act.put, sTA, sCZ, sCS]); go_simp; try rfl)⟩ | exact absurd hi (by simp))
  case n8fi =>
   intro wf hR
   have hS := True.intro
   (try simp only [putF, List.getD_cons_succ, List.getD_cons_zero, Go.Act.put, sTA, sCZ, sCS])
   obtain ⟨r0, r1⟩ := cells2 (HE.out.below hR).R
   obtain ⟨b0, b1, b2⟩ := cells3 (HE.out.below hR).A
   obtain ⟨g0, g1, _⟩ := frozen5 (HE.out.below hR).R 0
   obtain ⟨k0, k1, k2, _⟩ := frozen5 (HE.out.below hR).A 0
   simp only [Nat.zero_add] at g1 k1 k2
   have HF := jD ((HE.out.below hR).fin (no' tNotIn))
   clear hR e0 e1 hel
   refine wpAnyZ_one (i := 2) rfl rfl (by kernel_rfl) (fun K hK => ?_)
   (try simp only [gTA, gCZ, gCS])
   go_simp
   have hS2 := True.intro
   refine hK.out _ _ hS2 ?_
   clear hK K hS
   have hS := hS2
   clear hS2
   (try simp only [gTA, gCZ, gCS, Act.put, sTA, sCZ, sCS])
   refine wpAnyZ_last rfl rfl (by kernel_rfl) (by kernel_rfl) (fun K hK => ?_)
   (try simp only [gTA, gCZ, gCS])
   go_simp
   refine hK.out _ _ ?_
   clear hK K
   (try simp only [gTA, gCZ, gCS, Act.put, sTA, sCZ, sCS])
   go_wp2
   refine bodyPost_ret (v := .tuple #[.agg #[.slice D W.rows.length d, .slice (some ⟨S, 0, none⟩) W.ss.length cap], .agg #[.int .i64 4, .string tNotIn, .int .i64 0]]) (by simp [results, Tryz.results105, go_sem, r0, r1, b0, b1, b2]) rfl ?_
   exact HF.out _ _ _ _ _
 case' c9 =>
  intro a1 a2
  subst a1
  have t0 : (s.st == 2) = false := beq_eq_false_iff_ne.2 a2
  clear a2
  go_enter Tryz.func105, Tryz.ntmps105
  go_wp2_with fail
  rw [HW5.out]
  have HE := jD (HD.out.atE HH.out)
  obtain ⟨e0, e1⟩ := cells2 HE.out.X
  have hel := HE.out.X.lt
  clear x0 x1 y0 y1 y2 z0 z1 z2 z3 z4 hXl hYl hZl c0 c1 c2 c3 c4
  refine wp_freeX 3 [(0, 119), (1, 120)] [[], []] [.agg #[.slice D W.rows.length d, .slice (some ⟨S, 0, none⟩) W.ss.length cap], .agg #[.int .i64 4, .string tAsked, .int .i64 0]] (fun _ w w' => Below w.heap.size w w') (fun wc => Below W5.heap.size W5 wc) 2 (by kernel_rfl) (by rfl) (by kernel_rfl) (fun _ _ _ _ _ h => h) (Below.refl _ _).drew (fun _ _ => Below.refl _ _) (fun k w w' h hb => bel_trans h hb) ?n9ob ?n9fi
  case n9ob =>
   intro i hi wc hR
   have e0' := (hR.cell (p := ⟨w.heap.size, 0, none⟩) hel).trans e0
   have e1' := (hR.cell (p := ⟨w.heap.size, 1, none⟩) hel).trans e1
   by_cases hk1 : i = 1
   ·subst hk1
    refine ⟨_, rfl, ?_, Or.inr ⟨123, #[.string tAsked], ?_, ?_⟩⟩
    ·((try simp only [putF, List.getD_cons_succ, List.getD_cons_zero, Go.Act.put, sTA, sCZ, sCS]); try rfl)
    ·((try simp only [putF, List.getD_cons_succ, List.getD_cons_zero, Go.Act.put, sTA, sCZ, sCS]); go_simp; try rfl)
    ·refine (no_any tAsked wc).mono ?_
     rintro e w' ⟨rfl, hb⟩
     exact ⟨rfl, hb⟩
   rcases i with _ | _ | i
   all_goals (first | contradiction | exact ⟨_, rfl, (by (try simp only [putF, List.getD_cons_succ, List.getD_cons_zero, Go.Act.put, sTA, sCZ, sCS]); try rfl), Or.inl (by (try simp only [putF, List.getD_cons_succ, List.getD_cons_zero, Go.Act.put, sTA, sCZ, sCS]); go_simp; try rfl)⟩ | exact absurd hi (by simp))
  case n9fi =>
   intro wf hR
   have hS := True.intro
   (try simp only [putF, List.getD_cons_succ, List.getD_cons_zero, Go.Act.put, sTA, sCZ, sCS])
   obtain ⟨r0, r1⟩ := cells2 (HE.out.below hR).R
   obtain ⟨b0, b1, b2⟩ := cells3 (HE.out.below hR).A
   obtain ⟨g0, g1, _⟩ := frozen5 (HE.out.below hR).R 0
   obtain ⟨k0, k1, k2, _⟩ := frozen5 (HE.out.below hR).A 0
   simp only [Nat.zero_add] at g1 k1 k2
   have HF := jD ((HE.out.below hR).fin (no' tAsked))
   clear hR e0 e1 hel
   refine wpAnyZ_one (i := 2) rfl rfl (by kernel_rfl) (fun K hK => ?_)
   (try simp only [gTA, gCZ, gCS])
   go_simp
   have hS2 := True.intro
   refine hK.out _ _ hS2 ?_
   clear hK K hS
   have hS := hS2
   clear hS2
   (try simp only [gTA, gCZ, gCS, Act.put, sTA, sCZ, sCS])
   refine wpAnyZ_last rfl rfl (by kernel_rfl) (by kernel_rfl) (fun K hK => ?_)
   (try simp only [gTA, gCZ, gCS])
   go_simp
   refine hK.out _ _ ?_
   clear hK K
   (try simp only [gTA, gCZ, gCS, Act.put, sTA, sCZ, sCS])
   go_wp2
   refine bodyPost_ret (v := .tuple #[.agg #[.slice D W.rows.length d, .slice (some ⟨S, 0, none⟩) W.ss.length cap], .agg #[.int .i64 4, .string tAsked, .int .i64 0]]) (by simp [results, Tryz.results105, go_sem, r0, r1, b0, b1, b2]) rfl ?_
   exact HF.out _ _ _ _ _
 case' c10 =>
  intro a1 a2
  subst a1
  have t0 : (s.st == 2) = false := beq_eq_false_iff_ne.2 a2
  clear a2
  go_enter Tryz.func105, Tryz.ntmps105
  go_wp2_with fail
  rw [HW5.out]
  refine (at_any _ s.set key _ _ (HS.out.core.l1.step HD.out.bel)).mono ?_
  rw [atV_eq]
  rintro e w5 ⟨rfl, rfl⟩
  generalize atL s.set key = o at *
  go_wp2_with fail
  have HE := jD (HD.out.atE HH.out)
  obtain ⟨e0, e1⟩ := cells2 HE.out.X
  have hel := HE.out.X.lt
  clear x0 x1 y0 y1 y2 z0 z1 z2 z3 z4 hXl hYl hZl c0 c1 c2 c3 c4
  refine wp_freeX 5 [(0, 131), (1, 132), (2, 133), (3, 134)] [[], [], [], [(1, 132), (2, 133)]] [.agg #[.slice D W.rows.length d, .slice (some ⟨S, 0, none⟩) W.ss.length cap], .string (o.getD ⟨#[]⟩), .bool o.isSome, .agg #[.int .i64 (fnd' o).kind, .string (fnd' o).text, .int .i64 0]] (fun _ w w' => Below w.heap.size w w') (fun wc => Below W5.heap.size W5 wc) 2 (by kernel_rfl) (by rfl) (by kernel_rfl) (fun _ _ _ _ _ h => h) (Below.refl _ _).drew (fun _ _ => Below.refl _ _) (fun k w w' h hb => bel_trans h hb) ?n10ob ?n10fi
  case n10ob =>
   intro i hi wc hR
   have e0' := (hR.cell (p := ⟨w.heap.size, 0, none⟩) hel).trans e0
   have e1' := (hR.cell (p := ⟨w.heap.size, 1, none⟩) hel).trans e1
   by_cases hk3 : i = 3
   ·subst hk3
    refine ⟨_, rfl, ?_, Or.inr ⟨126, #[.string (o.getD ⟨#[]⟩), .bool o.isSome], ?_, ?_⟩⟩
    ·((try simp only [putF, List.getD_cons_succ, List.getD_cons_zero, Go.Act.put, sTA, sCZ, sCS]); try rfl)
    ·((try simp only [putF, List.getD_cons_succ, List.getD_cons_zero, Go.Act.put, sTA, sCZ, sCS]); go_simp; try rfl)
    ·refine (found_any o wc).mono ?_
     rintro e w' ⟨rfl, hb⟩
     exact ⟨rfl, hb⟩
   rcases i with _ | _ | _ | _ | i
   all_goals (first | contradiction | exact ⟨_, rfl, (by (try simp only [putF, List.getD_cons_succ, List.getD_cons_zero, Go.Act.put, sTA, sCZ, sCS]); try rfl), Or.inl (by (try simp only [putF, List.getD_cons_succ, List.getD_cons_zero, Go.Act.put, sTA, sCZ, sCS]); go_simp; try rfl)⟩ | exact absurd hi (by simp))
  case n10fi =>
   intro wf hR
   have hS := True.intro
   (try simp only [putF, List.getD_cons_succ, List.getD_cons_zero, Go.Act.put, sTA, sCZ, sCS])
   obtain ⟨r0, r1⟩ := cells2 (HE.out.below hR).R
   obtain ⟨b0, b1, b2⟩ := cells3 (HE.out.below hR).A
   obtain ⟨g0, g1, _⟩ := frozen5 (HE.out.below hR).R 0
   obtain ⟨k0, k1, k2, _⟩ := frozen5 (HE.out.below hR).A 0
   simp only [Nat.zero_add] at g1 k1 k2
   have HF := jD ((HE.out.below hR).fin (fnd' o))
   clear hR e0 e1 hel
   refine wpAnyZ_one (i := 4) rfl rfl (by kernel_rfl) (fun K hK => ?_)
   (try simp only [gTA, gCZ, gCS])
   go_simp
   have hS2 := True.intro
   refine hK.out _ _ hS2 ?_
   clear hK K hS
   have hS := hS2
   clear hS2
   (try simp only [gTA, gCZ, gCS, Act.put, sTA, sCZ, sCS])
   refine wpAnyZ_last rfl rfl (by kernel_rfl) (by kernel_rfl) (fun K hK => ?_)
   (try simp only [gTA, gCZ, gCS])
   go_simp
   refine hK.out _ _ ?_
   clear hK K
   (try simp only [gTA, gCZ, gCS, Act.put, sTA, sCZ, sCS])
   go_wp2
   refine bodyPost_ret (v := .tuple #[.agg #[.slice D W.rows.length d, .slice (some ⟨S, 0, none⟩) W.ss.length cap], .agg #[.int .i64 (fnd' o).kind, .string (fnd' o).text, .int .i64 0]]) (by simp [results, Tryz.results105, go_sem, r0, r1, b0, b1, b2]) rfl ?_
   exact HF.out _ _ _ _ _
 case' c11 =>
  intro a1 a2 v a3
  subst a1
  have t0 : (s.st == 2) = false := beq_eq_false_iff_ne.2 a2
  clear a2
  go_enter Tryz.func105, Tryz.ntmps105
  go_wp2_with fail
  rw [HW5.out]
  refine (at_any _ s.wr key _ _ (HS.out.core.l4.step HD.out.bel)).mono ?_
  rw [a3, atV_eq]
  rintro e w5 ⟨rfl, rfl⟩
  go_wp2_with fail
  have HE := jD (HD.out.atE HH.out)
  obtain ⟨e0, e1⟩ := cells2 HE.out.X
  have hel := HE.out.X.lt
  clear x0 x1 y0 y1 y2 z0 z1 z2 z3 z4 hXl hYl hZl c0 c1 c2 c3 c4
  refine wp_freeX 5 [(0, 155), (1, 156), (2, 157), (3, 158)] [[], [], [], [(1, 156), (2, 157)]] [.agg #[.slice D W.rows.length d, .slice (some ⟨S, 0, none⟩) W.ss.length cap], .string ((some v).getD ⟨#[]⟩), .bool (some v).isSome, .agg #[.int .i64 (fnd' (some v)).kind, .string (fnd' (some v)).text, .int .i64 0]] (fun _ w w' => Below w.heap.size w w') (fun wc => Below W5.heap.size W5 wc) 2 (by kernel_rfl) (by rfl) (by kernel_rfl) (fun _ _ _ _ _ h => h) (Below.refl _ _).drew (fun _ _ => Below.refl _ _) (fun k w w' h hb => bel_trans h hb) ?n11ob ?n11fi
  case n11ob =>
   intro i hi wc hR
   have e0' := (hR.cell (p := ⟨w.heap.size, 0, none⟩) hel).trans e0
   have e1' := (hR.cell (p := ⟨w.heap.size, 1, none⟩) hel).trans e1
   by_cases hk3 : i = 3
   ·subst hk3
    refine ⟨_, rfl, ?_, Or.inr ⟨126, #[.string ((some v).getD ⟨#[]⟩), .bool (some v).isSome], ?_, ?_⟩⟩
    ·((try simp only [putF, List.getD_cons_succ, List.getD_cons_zero, Go.Act.put, sTA, sCZ, sCS]); try rfl)
    ·((try simp only [putF, List.getD_cons_succ, List.getD_cons_zero, Go.Act.put, sTA, sCZ, sCS]); go_simp; try rfl)
    ·refine (found_any (some v) wc).mono ?_
     rintro e w' ⟨rfl, hb⟩
     exact ⟨rfl, hb⟩
   rcases i with _ | _ | _ | _ | i
   all_goals (first | contradiction | exact ⟨_, rfl, (by (try simp only [putF, List.getD_cons_succ, List.getD_cons_zero, Go.Act.put, sTA, sCZ, sCS]); try rfl), Or.inl (by (try simp only [putF, List.getD_cons_succ, List.getD_cons_zero, Go.Act.put, sTA, sCZ, sCS]); go_simp; try rfl)⟩ | exact absurd hi (by simp))
  case n11fi =>
   intro wf hR
   have hS := True.intro
   (try simp only [putF, List.getD_cons_succ, List.getD_cons_zero, Go.Act.put, sTA, sCZ, sCS])
   obtain ⟨r0, r1⟩ := cells2 (HE.out.below hR).R
   obtain ⟨b0, b1, b2⟩ := cells3 (HE.out.below hR).A
   obtain ⟨g0, g1, _⟩ := frozen5 (HE.out.below hR).R 0
   obtain ⟨k0, k1, k2, _⟩ := frozen5 (HE.out.below hR).A 0
   simp only [Nat.zero_add] at g1 k1 k2
   have HF := jD ((HE.out.below hR).fin (fnd' (some v)))
   clear hR e0 e1 hel
   refine wpAnyZ_one (i := 4) rfl rfl (by kernel_rfl) (fun K hK => ?_)
   (try simp only [gTA, gCZ, gCS])
   go_simp
   have hS2 := True.intro
   refine hK.out _ _ hS2 ?_
   clear hK K hS
   have hS := hS2
   clear hS2
   (try simp only [gTA, gCZ, gCS, Act.put, sTA, sCZ, sCS])
   refine wpAnyZ_last rfl rfl (by kernel_rfl) (by kernel_rfl) (fun K hK => ?_)
   (try simp only [gTA, gCZ, gCS])
   go_simp
   refine hK.out _ _ ?_
   clear hK K
   (try simp only [gTA, gCZ, gCS, Act.put, sTA, sCZ, sCS])
   go_wp2
   refine bodyPost_ret (v := .tuple #[.agg #[.slice D W.rows.length d, .slice (some ⟨S, 0, none⟩) W.ss.length cap], .agg #[.int .i64 (fnd' (some v)).kind, .string (fnd' (some v)).text, .int .i64 0]]) (by simp [results, Tryz.results105, go_sem, r0, r1, b0, b1, b2]) rfl ?_
   exact HF.out _ _ _ _ _
 case' c12 =>
  intro a1 a2 a3
  subst a1
  have t0 : (s.st == 2) = false := beq_eq_false_iff_ne.2 a2
  clear a2
  go_enter Tryz.func105, Tryz.ntmps105
  go_wp2_with fail
  rw [HW5.out]
  refine (at_any _ s.wr key _ _ (HS.out.core.l4.step HD.out.bel)).mono ?_
  rw [a3, atV_eq]
  rintro e w5 ⟨rfl, rfl⟩
  go_wp2_with fail
  refine (at_any _ W.rows key _ _ (HH.out.rows.step HD.out.bel)).mono ?_
  rw [atV_eq]
  rintro e w5 ⟨rfl, rfl⟩
  generalize atL W.rows key = o at *
  go_wp2_with fail
  have HE := jD (HD.out.atE HH.out)
  obtain ⟨e0, e1⟩ := cells2 HE.out.X
  have hel := HE.out.X.lt
  clear x0 x1 y0 y1 y2 z0 z1 z2 z3 z4 hXl hYl hZl c0 c1 c2 c3 c4
  refine wp_freeX 5 [(0, 155), (1, 156), (2, 157), (3, 158)] [[], [], [], [(1, 156), (2, 157)]] [.agg #[.slice D W.rows.length d, .slice (some ⟨S, 0, none⟩) W.ss.length cap], .string (o.getD ⟨#[]⟩), .bool o.isSome, .agg #[.int .i64 (fnd' o).kind, .string (fnd' o).text, .int .i64 0]] (fun _ w w' => Below w.heap.size w w') (fun wc => Below W5.heap.size W5 wc) 2 (by kernel_rfl) (by rfl) (by kernel_rfl) (fun _ _ _ _ _ h => h) (Below.refl _ _).drew (fun _ _ => Below.refl _ _) (fun k w w' h hb => bel_trans h hb) ?n12ob ?n12fi
  case n12ob =>
   intro i hi wc hR
   have e0' := (hR.cell (p := ⟨w.heap.size, 0, none⟩) hel).trans e0
   have e1' := (hR.cell (p := ⟨w.heap.size, 1, none⟩) hel).trans e1
   by_cases hk3 : i = 3
   ·subst hk3
    refine ⟨_, rfl, ?_, Or.inr ⟨126, #[.string (o.getD ⟨#[]⟩), .bool o.isSome], ?_, ?_⟩⟩
    ·((try simp only [putF, List.getD_cons_succ, List.getD_cons_zero, Go.Act.put, sTA, sCZ, sCS]); try rfl)
    ·((try simp only [putF, List.getD_cons_succ, List.getD_cons_zero, Go.Act.put, sTA, sCZ, sCS]); go_simp; try rfl)
    ·refine (found_any o wc).mono ?_
     rintro e w' ⟨rfl, hb⟩
     exact ⟨rfl, hb⟩
   rcases i with _ | _ | _ | _ | i
   all_goals (first | contradiction | exact ⟨_, rfl, (by (try simp only [putF, List.getD_cons_succ, List.getD_cons_zero, Go.Act.put, sTA, sCZ, sCS]); try rfl), Or.inl (by (try simp only [putF, List.getD_cons_succ, List.getD_cons_zero, Go.Act.put, sTA, sCZ, sCS]); go_simp; try rfl)⟩ | exact absurd hi (by simp))
  case n12fi =>
   intro wf hR
   have hS := True.intro
   (try simp only [putF, List.getD_cons_succ, List.getD_cons_zero, Go.Act.put, sTA, sCZ, sCS])
   obtain ⟨r0, r1⟩ := cells2 (HE.out.below hR).R
   obtain ⟨b0, b1, b2⟩ := cells3 (HE.out.below hR).A
   obtain ⟨g0, g1, _⟩ := frozen5 (HE.out.below hR).R 0
   obtain ⟨k0, k1, k2, _⟩ := frozen5 (HE.out.below hR).A 0
   simp only [Nat.zero_add] at g1 k1 k2
   have HF := jD ((HE.out.below hR).fin (fnd' o))
   clear hR e0 e1 hel
   refine wpAnyZ_one (i := 4) rfl rfl (by kernel_rfl) (fun K hK => ?_)
   (try simp only [gTA, gCZ, gCS])
   go_simp
   have hS2 := True.intro
   refine hK.out _ _ hS2 ?_
   clear hK K hS
   have hS := hS2
   clear hS2
   (try simp only [gTA, gCZ, gCS, Act.put, sTA, sCZ, sCS])
   refine wpAnyZ_last rfl rfl (by kernel_rfl) (by kernel_rfl) (fun K hK => ?_)
   (try simp only [gTA, gCZ, gCS])
   go_simp
   refine hK.out _ _ ?_
   clear hK K
   (try simp only [gTA, gCZ, gCS, Act.put, sTA, sCZ, sCS])
   go_wp2
   refine bodyPost_ret (v := .tuple #[.agg #[.slice D W.rows.length d, .slice (some ⟨S, 0, none⟩) W.ss.length cap], .agg #[.int .i64 (fnd' o).kind, .string (fnd' o).text, .int .i64 0]]) (by simp [results, Tryz.results105, go_sem, r0, r1, b0, b1, b2]) rfl ?_
   exact HF.out _ _ _ _ _
 case' c14 =>
  intro a1 a2 a3 a4
  subst a1
  have t0 : (s.st == 2) = false := beq_eq_false_iff_ne.2 a2
  have t1 : (6 : Int) ≤ (s.set.length : Int) := by omega
  clear a2 a4
  go_enter Tryz.func105, Tryz.ntmps105
  go_wp2_with fail
  rw [HW5.out]
  refine (at_any _ s.set key _ _ (HS.out.core.l1.step HD.out.bel)).mono ?_
  rw [a3, atV_eq]
  rintro e w5 ⟨rfl, rfl⟩
  go_wp2_with fail
  have HE := jD (HD.out.atE HH.out)
  obtain ⟨e0, e1⟩ := cells2 HE.out.X
  have hel := HE.out.X.lt
  clear x0 x1 y0 y1 y2 z0 z1 z2 z3 z4 hXl hYl hZl c0 c1 c2 c3 c4
  refine wp_freeX 3 [(0, 202), (1, 203)] [[], []] [.agg #[.slice D W.rows.length d, .slice (some ⟨S, 0, none⟩) W.ss.length cap], .agg #[.int .i64 4, .string tFull, .int .i64 0]] (fun _ w w' => Below w.heap.size w w') (fun wc => Below W5.heap.size W5 wc) 2 (by kernel_rfl) (by rfl) (by kernel_rfl) (fun _ _ _ _ _ h => h) (Below.refl _ _).drew (fun _ _ => Below.refl _ _) (fun k w w' h hb => bel_trans h hb) ?n14ob ?n14fi
  case n14ob =>
   intro i hi wc hR
   have e0' := (hR.cell (p := ⟨w.heap.size, 0, none⟩) hel).trans e0
   have e1' := (hR.cell (p := ⟨w.heap.size, 1, none⟩) hel).trans e1
   by_cases hk1 : i = 1
   ·subst hk1
    refine ⟨_, rfl, ?_, Or.inr ⟨123, #[.string tFull], ?_, ?_⟩⟩
    ·((try simp only [putF, List.getD_cons_succ, List.getD_cons_zero, Go.Act.put, sTA, sCZ, sCS]); try rfl)
    ·((try simp only [putF, List.getD_cons_succ, List.getD_cons_zero, Go.Act.put, sTA, sCZ, sCS]); go_simp; try rfl)
    ·refine (no_any tFull wc).mono ?_
     rintro e w' ⟨rfl, hb⟩
     exact ⟨rfl, hb⟩
   rcases i with _ | _ | i
   all_goals (first | contradiction | exact ⟨_, rfl, (by (try simp only [putF, List.getD_cons_succ, List.getD_cons_zero, Go.Act.put, sTA, sCZ, sCS]); try rfl), Or.inl (by (try simp only [putF, List.getD_cons_succ, List.getD_cons_zero, Go.Act.put, sTA, sCZ, sCS]); go_simp; try rfl)⟩ | exact absurd hi (by simp))
  case n14fi =>
   intro wf hR
   have hS := True.intro
   (try simp only [putF, List.getD_cons_succ, List.getD_cons_zero, Go.Act.put, sTA, sCZ, sCS])
   obtain ⟨r0, r1⟩ := cells2 (HE.out.below hR).R
   obtain ⟨b0, b1, b2⟩ := cells3 (HE.out.below hR).A
   obtain ⟨g0, g1, _⟩ := frozen5 (HE.out.below hR).R 0
   obtain ⟨k0, k1, k2, _⟩ := frozen5 (HE.out.below hR).A 0
   simp only [Nat.zero_add] at g1 k1 k2
   have HF := jD ((HE.out.below hR).fin (no' tFull))
   clear hR e0 e1 hel
   refine wpAnyZ_one (i := 2) rfl rfl (by kernel_rfl) (fun K hK => ?_)
   (try simp only [gTA, gCZ, gCS])
   go_simp
   have hS2 := True.intro
   refine hK.out _ _ hS2 ?_
   clear hK K hS
   have hS := hS2
   clear hS2
   (try simp only [gTA, gCZ, gCS, Act.put, sTA, sCZ, sCS])
   refine wpAnyZ_last rfl rfl (by kernel_rfl) (by kernel_rfl) (fun K hK => ?_)
   (try simp only [gTA, gCZ, gCS])
   go_simp
   refine hK.out _ _ ?_
   clear hK K
   (try simp only [gTA, gCZ, gCS, Act.put, sTA, sCZ, sCS])
   go_wp2
   refine bodyPost_ret (v := .tuple #[.agg #[.slice D W.rows.length d, .slice (some ⟨S, 0, none⟩) W.ss.length cap], .agg #[.int .i64 4, .string tFull, .int .i64 0]]) (by simp [results, Tryz.results105, go_sem, r0, r1, b0, b1, b2]) rfl ?_
   exact HF.out _ _ _ _ _
 case' c16 =>
  intro a1 a2 a3 a4
  subst a1
  have t0 : (s.st == 2) = false := beq_eq_false_iff_ne.2 a2
  have t1 : (6 : Int) ≤ (s.prep.length : Int) := by omega
  clear a2 a4
  go_enter Tryz.func105, Tryz.ntmps105
  go_wp2_with fail
  rw [HW5.out]
  refine (at_any _ s.prep key _ _ (HS.out.core.l2.step HD.out.bel)).mono ?_
  rw [a3, atV_eq]
  rintro e w5 ⟨rfl, rfl⟩
  go_wp2_with fail
  have HE := jD (HD.out.atE HH.out)
  obtain ⟨e0, e1⟩ := cells2 HE.out.X
  have hel := HE.out.X.lt
  clear x0 x1 y0 y1 y2 z0 z1 z2 z3 z4 hXl hYl hZl c0 c1 c2 c3 c4
  refine wp_freeX 3 [(0, 230), (1, 231)] [[], []] [.agg #[.slice D W.rows.length d, .slice (some ⟨S, 0, none⟩) W.ss.length cap], .agg #[.int .i64 4, .string tFull, .int .i64 0]] (fun _ w w' => Below w.heap.size w w') (fun wc => Below W5.heap.size W5 wc) 2 (by kernel_rfl) (by rfl) (by kernel_rfl) (fun _ _ _ _ _ h => h) (Below.refl _ _).drew (fun _ _ => Below.refl _ _) (fun k w w' h hb => bel_trans h hb) ?n16ob ?n16fi
  case n16ob =>
   intro i hi wc hR
   have e0' := (hR.cell (p := ⟨w.heap.size, 0, none⟩) hel).trans e0
   have e1' := (hR.cell (p := ⟨w.heap.size, 1, none⟩) hel).trans e1
   by_cases hk1 : i = 1
   ·subst hk1
    refine ⟨_, rfl, ?_, Or.inr ⟨123, #[.string tFull], ?_, ?_⟩⟩
    ·((try simp only [putF, List.getD_cons_succ, List.getD_cons_zero, Go.Act.put, sTA, sCZ, sCS]); try rfl)
    ·((try simp only [putF, List.getD_cons_succ, List.getD_cons_zero, Go.Act.put, sTA, sCZ, sCS]); go_simp; try rfl)
    ·refine (no_any tFull wc).mono ?_
     rintro e w' ⟨rfl, hb⟩
     exact ⟨rfl, hb⟩
   rcases i with _ | _ | i
   all_goals (first | contradiction | exact ⟨_, rfl, (by (try simp only [putF, List.getD_cons_succ, List.getD_cons_zero, Go.Act.put, sTA, sCZ, sCS]); try rfl), Or.inl (by (try simp only [putF, List.getD_cons_succ, List.getD_cons_zero, Go.Act.put, sTA, sCZ, sCS]); go_simp; try rfl)⟩ | exact absurd hi (by simp))
  case n16fi =>
   intro wf hR
   have hS := True.intro
   (try simp only [putF, List.getD_cons_succ, List.getD_cons_zero, Go.Act.put, sTA, sCZ, sCS])
   obtain ⟨r0, r1⟩ := cells2 (HE.out.below hR).R
   obtain ⟨b0, b1, b2⟩ := cells3 (HE.out.below hR).A
   obtain ⟨g0, g1, _⟩ := frozen5 (HE.out.below hR).R 0
   obtain ⟨k0, k1, k2, _⟩ := frozen5 (HE.out.below hR).A 0
   simp only [Nat.zero_add] at g1 k1 k2
   have HF := jD ((HE.out.below hR).fin (no' tFull))
   clear hR e0 e1 hel
   refine wpAnyZ_one (i := 2) rfl rfl (by kernel_rfl) (fun K hK => ?_)
   (try simp only [gTA, gCZ, gCS])
   go_simp
   have hS2 := True.intro
   refine hK.out _ _ hS2 ?_
   clear hK K hS
   have hS := hS2
   clear hS2
   (try simp only [gTA, gCZ, gCS, Act.put, sTA, sCZ, sCS])
   refine wpAnyZ_last rfl rfl (by kernel_rfl) (by kernel_rfl) (fun K hK => ?_)
   (try simp only [gTA, gCZ, gCS])
   go_simp
   refine hK.out _ _ ?_
   clear hK K
   (try simp only [gTA, gCZ, gCS, Act.put, sTA, sCZ, sCS])
   go_wp2
   refine bodyPost_ret (v := .tuple #[.agg #[.slice D W.rows.length d, .slice (some ⟨S, 0, none⟩) W.ss.length cap], .agg #[.int .i64 4, .string tFull, .int .i64 0]]) (by simp [results, Tryz.results105, go_sem, r0, r1, b0, b1, b2]) rfl ?_
   exact HF.out _ _ _ _ _
 case' c17 =>
  intro a1 a2 a3
  subst a1
  have t0 : (s.st == 2) = false := beq_eq_false_iff_ne.2 a2
  clear a2
  go_enter Tryz.func105, Tryz.ntmps105
  go_wp2_with fail
  rw [HW5.out]
  refine (isHeld_any _ _ W i key _ (HH.out.below HD.out.bel).wld).mono ?_
  rw [a3]
  rintro e w6 ⟨rfl, hb6⟩
  have HD6 := jD (HD.out.below hb6)
  clear x0 x1 y0 y1 y2 z0 z1 z2 z3 z4 hXl hYl hZl
  obtain ⟨x0, x1⟩ := cells2 HD6.out.X
  obtain ⟨y0, y1, y2⟩ := cells3 HD6.out.Y
  obtain ⟨z0, z1, z2, z3, z4⟩ := cells5 HD6.out.Z
  have hXl := HD6.out.X.lt
  have hYl := HD6.out.Y.lt
  have hZl := HD6.out.Z.lt
  clear hb6
  go_wp2_with fail
  have HE := jD (HD6.out.atE HH.out)
  obtain ⟨e0, e1⟩ := cells2 HE.out.X
  have hel := HE.out.X.lt
  clear x0 x1 y0 y1 y2 z0 z1 z2 z3 z4 hXl hYl hZl c0 c1 c2 c3 c4
  refine wp_freeX 3 [(0, 247), (1, 248)] [[], []] [.agg #[.slice D W.rows.length d, .slice (some ⟨S, 0, none⟩) W.ss.length cap], .agg #[.int .i64 4, .string tHeld, .int .i64 0]] (fun _ w w' => Below w.heap.size w w') (fun wc => Below w6.heap.size w6 wc) 2 (by kernel_rfl) (by rfl) (by kernel_rfl) (fun _ _ _ _ _ h => h) (Below.refl _ _).drew (fun _ _ => Below.refl _ _) (fun k w w' h hb => bel_trans h hb) ?n17ob ?n17fi
  case n17ob =>
   intro i hi wc hR
   have e0' := (hR.cell (p := ⟨w.heap.size, 0, none⟩) hel).trans e0
   have e1' := (hR.cell (p := ⟨w.heap.size, 1, none⟩) hel).trans e1
   by_cases hk1 : i = 1
   ·subst hk1
    refine ⟨_, rfl, ?_, Or.inr ⟨123, #[.string tHeld], ?_, ?_⟩⟩
    ·((try simp only [putF, List.getD_cons_succ, List.getD_cons_zero, Go.Act.put, sTA, sCZ, sCS]); try rfl)
    ·((try simp only [putF, List.getD_cons_succ, List.getD_cons_zero, Go.Act.put, sTA, sCZ, sCS]); go_simp; try rfl)
    ·refine (no_any tHeld wc).mono ?_
     rintro e w' ⟨rfl, hb⟩
     exact ⟨rfl, hb⟩
   rcases i with _ | _ | i
   all_goals (first | contradiction | exact ⟨_, rfl, (by (try simp only [putF, List.getD_cons_succ, List.getD_cons_zero, Go.Act.put, sTA, sCZ, sCS]); try rfl), Or.inl (by (try simp only [putF, List.getD_cons_succ, List.getD_cons_zero, Go.Act.put, sTA, sCZ, sCS]); go_simp; try rfl)⟩ | exact absurd hi (by simp))
  case n17fi =>
   intro wf hR
   have hS := True.intro
   (try simp only [putF, List.getD_cons_succ, List.getD_cons_zero, Go.Act.put, sTA, sCZ, sCS])
   obtain ⟨r0, r1⟩ := cells2 (HE.out.below hR).R
   obtain ⟨b0, b1, b2⟩ := cells3 (HE.out.below hR).A
   obtain ⟨g0, g1, _⟩ := frozen5 (HE.out.below hR).R 0
   obtain ⟨k0, k1, k2, _⟩ := frozen5 (HE.out.below hR).A 0
   simp only [Nat.zero_add] at g1 k1 k2
   have HF := jD ((HE.out.below hR).fin (no' tHeld))
   clear hR e0 e1 hel
   refine wpAnyZ_one (i := 2) rfl rfl (by kernel_rfl) (fun K hK => ?_)
   (try simp only [gTA, gCZ, gCS])
   go_simp
   have hS2 := True.intro
   refine hK.out _ _ hS2 ?_
   clear hK K hS
   have hS := hS2
   clear hS2
   (try simp only [gTA, gCZ, gCS, Act.put, sTA, sCZ, sCS])
   refine wpAnyZ_last rfl rfl (by kernel_rfl) (by kernel_rfl) (fun K hK => ?_)
   (try simp only [gTA, gCZ, gCS])
   go_simp
   refine hK.out _ _ ?_
   clear hK K
   (try simp only [gTA, gCZ, gCS, Act.put, sTA, sCZ, sCS])
   go_wp2
   refine bodyPost_ret (v := .tuple #[.agg #[.slice D W.rows.length d, .slice (some ⟨S, 0, none⟩) W.ss.length cap], .agg #[.int .i64 4, .string tHeld, .int .i64 0]]) (by simp [results, Tryz.results105, go_sem, r0, r1, b0, b1, b2]) rfl ?_
   exact HF.out _ _ _ _ _
 case' c7 =>
  intro a1 a2
  subst a1
  have t0 : (s.st == 2) = false := beq_eq_false_iff_ne.2 (by omega)
  have t1 : (s.st != 0) = false := bne_eq_false_iff_eq.2 a2
  have HD6 := jD (didAt0 w (.slice D W.rows.length d) (.slice (some ⟨S, 0, none⟩) W.ss.length cap) 4 key val s.st (.slice none 0 0) (.slice none 0 0) (.slice A3 s.sav.length n3) (.slice A4 s.wr.length n4))
  have hS6 := HH.out.blk.below HD6.out.bel hSw
  obtain ⟨s0, s1, s2, s3, s4, d0, d1, d2, d3, d4⟩ := any5 hS6 (o := i * 5) (by have := HH.out.len; have := HI.out.1; omega)
  obtain ⟨df0, df1, df2, df3, df4⟩ := frozen5 hS6 (i * 5)
  unfold didW0 doW0 at d0 d1 d2 d3 d4 df0 df1 df2 df3 df4
  clear hS6
  clear a2
  go_enter Tryz.func105, Tryz.ntmps105
  go_wp2
  clear d0 d1 d2 d3 d4 df0 df1 df2 df3 df4 x0 x1 y0 y1 y2 z0 z1 z2 z3 z4 hXl hYl hZl c0 c1 c2 c3 c4
  have HP := jD (HD6.out.put (wz := didW0 w (.slice D W.rows.length d) (.slice (some ⟨S, 0, none⟩) W.ss.length cap) 4 key val s.st (.slice none 0 0) (.slice none 0 0) (.slice A3 s.sav.length n3) (.slice A4 s.wr.length n4)) (s' := { s with set := [], prep := [] }) (rows' := W.rows) (u1 := .slice none 0 0) (u2 := .slice none 0 0) (u3 := .slice A3 s.sav.length n3) (u4 := .slice A4 s.wr.length n4) HH.out HQ.out HI.out.1 (rz := .slice D W.rows.length d) HD6.out.X (fun b h1 h2 => rfl) (by first | rfl | simp [World.setCell]) ⟨rfl, rfl, rfl⟩ (HH.out.rows.step HD6.out.bel) (Lst.none_ _ _) (Lst.none_ _ _) (HS.out.core.l3.step HD6.out.bel) (HS.out.core.l4.step HD6.out.bel) (oldT HQ.out HH.out.rows HH.out.rin) (InP.nil_ _ _) (InP.nil_ _ _) (oldT HQ.out HS.out.core.l3 HS.out.p3) (oldT HQ.out HS.out.core.l4 HS.out.p4))
  obtain ⟨W7, HW7⟩ : ∃ u, Hid (set5 (didW0 w (.slice D W.rows.length d) (.slice (some ⟨S, 0, none⟩) W.ss.length cap) 4 key val s.st (.slice none 0 0) (.slice none 0 0) (.slice A3 s.sav.length n3) (.slice A4 s.wr.length n4)) S (i * 5) (.int .i64 s.st) (.slice none 0 0) (.slice none 0 0) (.slice A3 s.sav.length n3) (.slice A4 s.wr.length n4) = u) := ⟨_, jD rfl⟩
  have e7 := HW7.out
  rw [e7] at HP
  unfold set5 didW0 doW0 at e7
  rw [e7]
  obtain ⟨W8, h8⟩ : ∃ W8, (⟨W.rows, W.ss.set i { s with set := [], prep := [] }⟩ : Wd) = W8 := ⟨_, rfl⟩
  rw [h8] at HP
  obtain ⟨D8, m8, d8, hr8⟩ : ∃ D8 m8 d8, (.slice D W.rows.length d : Value) = .slice D8 m8 d8 := ⟨_, _, _, rfl⟩
  rw [hr8] at HP
  have HE := jD HP.out.1
  have HO := jD HP.out.2
  clear HP e7 HW7 hr8
 case' c6 =>
  intro a1 a2 a3
  have hst3 : s.st = 1 ∨ s.st = 2 := by have := hRE.out.1.lo; have := hRE.out.1.hi; omega
  rcases a1 with rfl | rfl
  case' inl =>
   have h2 : s.st = 2 := hst3.resolve_left (fun h => a3 ⟨rfl, h⟩)
   have t0 : (s.st == 0) = false := beq_eq_false_iff_ne.2 a2
   have t1 : (s.st == 1) = false := beq_eq_false_iff_ne.2 (by omega)
   have t2 : (s.st == 2) = true := beq_iff_eq.2 h2
   have HD6 := jD (didAt0 w (.slice D W.rows.length d) (.slice (some ⟨S, 0, none⟩) W.ss.length cap) 2 key val 0 (.slice A3 s.sav.length n3) (.slice A2 s.prep.length n2) (.slice none 0 0) (.slice none 0 0))
   have hS6 := HH.out.blk.below HD6.out.bel hSw
   obtain ⟨s0, s1, s2, s3, s4, d0, d1, d2, d3, d4⟩ := any5 hS6 (o := i * 5) (by have := HH.out.len; have := HI.out.1; omega)
   obtain ⟨df0, df1, df2, df3, df4⟩ := frozen5 hS6 (i * 5)
   unfold didW0 doW0 at d0 d1 d2 d3 d4 df0 df1 df2 df3 df4
   clear hS6
   clear a2 a3 h2
   go_enter Tryz.func105, Tryz.ntmps105
   go_wp2
   clear d0 d1 d2 d3 d4 df0 df1 df2 df3 df4 x0 x1 y0 y1 y2 z0 z1 z2 z3 z4 hXl hYl hZl c0 c1 c2 c3 c4
   have HP := jD (HD6.out.put (wz := didW0 w (.slice D W.rows.length d) (.slice (some ⟨S, 0, none⟩) W.ss.length cap) 2 key val 0 (.slice A3 s.sav.length n3) (.slice A2 s.prep.length n2) (.slice none 0 0) (.slice none 0 0)) (s' := { s with st := 0, set := s.sav, sav := [], wr := [] }) (rows' := W.rows) (u1 := .slice A3 s.sav.length n3) (u2 := .slice A2 s.prep.length n2) (u3 := .slice none 0 0) (u4 := .slice none 0 0) HH.out HQ.out HI.out.1 (rz := .slice D W.rows.length d) HD6.out.X (fun b h1 h2 => rfl) (by first | rfl | simp [World.setCell]) ⟨rfl, rfl, rfl⟩ (HH.out.rows.step HD6.out.bel) (HS.out.core.l3.step HD6.out.bel) (HS.out.core.l2.step HD6.out.bel) (Lst.none_ _ _) (Lst.none_ _ _) (oldT HQ.out HH.out.rows HH.out.rin) (oldT HQ.out HS.out.core.l3 HS.out.p3) (oldT HQ.out HS.out.core.l2 HS.out.p2) (InP.nil_ _ _) (InP.nil_ _ _))
   obtain ⟨W7, HW7⟩ : ∃ u, Hid (set5 (didW0 w (.slice D W.rows.length d) (.slice (some ⟨S, 0, none⟩) W.ss.length cap) 2 key val 0 (.slice A3 s.sav.length n3) (.slice A2 s.prep.length n2) (.slice none 0 0) (.slice none 0 0)) S (i * 5) (.int .i64 0) (.slice A3 s.sav.length n3) (.slice A2 s.prep.length n2) (.slice none 0 0) (.slice none 0 0) = u) := ⟨_, jD rfl⟩
   have e7 := HW7.out
   rw [e7] at HP
   unfold set5 didW0 doW0 at e7
   rw [e7]
   obtain ⟨W8, h8⟩ : ∃ W8, (⟨W.rows, W.ss.set i { s with st := 0, set := s.sav, sav := [], wr := [] }⟩ : Wd) = W8 := ⟨_, rfl⟩
   rw [h8] at HP
   obtain ⟨D8, m8, d8, hr8⟩ : ∃ D8 m8 d8, (.slice D W.rows.length d : Value) = .slice D8 m8 d8 := ⟨_, _, _, rfl⟩
   rw [hr8] at HP
   have HE := jD HP.out.1
   have HO := jD HP.out.2
   clear HP e7 HW7 hr8
  case' inr =>
   rcases hst3 with h2 | h2
   case' inl =>
    have t0 : (s.st == 0) = false := beq_eq_false_iff_ne.2 a2
    have t1 : (s.st == 2) = false := beq_eq_false_iff_ne.2 (by omega)
    have HD6 := jD (didAt0 w (.slice D W.rows.length d) (.slice (some ⟨S, 0, none⟩) W.ss.length cap) 3 key val 0 (.slice A3 s.sav.length n3) (.slice A2 s.prep.length n2) (.slice none 0 0) (.slice none 0 0))
    have hS6 := HH.out.blk.below HD6.out.bel hSw
    obtain ⟨s0, s1, s2, s3, s4, d0, d1, d2, d3, d4⟩ := any5 hS6 (o := i * 5) (by have := HH.out.len; have := HI.out.1; omega)
    obtain ⟨df0, df1, df2, df3, df4⟩ := frozen5 hS6 (i * 5)
    unfold didW0 doW0 at d0 d1 d2 d3 d4 df0 df1 df2 df3 df4
    clear hS6
    clear a2 a3 h2
    go_enter Tryz.func105, Tryz.ntmps105
    go_wp2
    clear d0 d1 d2 d3 d4 df0 df1 df2 df3 df4 x0 x1 y0 y1 y2 z0 z1 z2 z3 z4 hXl hYl hZl c0 c1 c2 c3 c4
    have HP := jD (HD6.out.put (wz := didW0 w (.slice D W.rows.length d) (.slice (some ⟨S, 0, none⟩) W.ss.length cap) 3 key val 0 (.slice A3 s.sav.length n3) (.slice A2 s.prep.length n2) (.slice none 0 0) (.slice none 0 0)) (s' := { s with st := 0, set := s.sav, sav := [], wr := [] }) (rows' := W.rows) (u1 := .slice A3 s.sav.length n3) (u2 := .slice A2 s.prep.length n2) (u3 := .slice none 0 0) (u4 := .slice none 0 0) HH.out HQ.out HI.out.1 (rz := .slice D W.rows.length d) HD6.out.X (fun b h1 h2 => rfl) (by first | rfl | simp [World.setCell]) ⟨rfl, rfl, rfl⟩ (HH.out.rows.step HD6.out.bel) (HS.out.core.l3.step HD6.out.bel) (HS.out.core.l2.step HD6.out.bel) (Lst.none_ _ _) (Lst.none_ _ _) (oldT HQ.out HH.out.rows HH.out.rin) (oldT HQ.out HS.out.core.l3 HS.out.p3) (oldT HQ.out HS.out.core.l2 HS.out.p2) (InP.nil_ _ _) (InP.nil_ _ _))
    obtain ⟨W7, HW7⟩ : ∃ u, Hid (set5 (didW0 w (.slice D W.rows.length d) (.slice (some ⟨S, 0, none⟩) W.ss.length cap) 3 key val 0 (.slice A3 s.sav.length n3) (.slice A2 s.prep.length n2) (.slice none 0 0) (.slice none 0 0)) S (i * 5) (.int .i64 0) (.slice A3 s.sav.length n3) (.slice A2 s.prep.length n2) (.slice none 0 0) (.slice none 0 0) = u) := ⟨_, jD rfl⟩
    have e7 := HW7.out
    rw [e7] at HP
    unfold set5 didW0 doW0 at e7
    rw [e7]
    obtain ⟨W8, h8⟩ : ∃ W8, (⟨W.rows, W.ss.set i { s with st := 0, set := s.sav, sav := [], wr := [] }⟩ : Wd) = W8 := ⟨_, rfl⟩
    rw [h8] at HP
    obtain ⟨D8, m8, d8, hr8⟩ : ∃ D8 m8 d8, (.slice D W.rows.length d : Value) = .slice D8 m8 d8 := ⟨_, _, _, rfl⟩
    rw [hr8] at HP
    have HE := jD HP.out.1
    have HO := jD HP.out.2
    clear HP e7 HW7 hr8
   case' inr =>
    have t0 : (s.st == 0) = false := beq_eq_false_iff_ne.2 a2
    have t1 : (s.st == 2) = true := beq_iff_eq.2 h2
    have HD6 := jD (didAt0 w (.slice D W.rows.length d) (.slice (some ⟨S, 0, none⟩) W.ss.length cap) 3 key val 0 (.slice A3 s.sav.length n3) (.slice A2 s.prep.length n2) (.slice none 0 0) (.slice none 0 0))
    have hS6 := HH.out.blk.below HD6.out.bel hSw
    obtain ⟨s0, s1, s2, s3, s4, d0, d1, d2, d3, d4⟩ := any5 hS6 (o := i * 5) (by have := HH.out.len; have := HI.out.1; omega)
    obtain ⟨df0, df1, df2, df3, df4⟩ := frozen5 hS6 (i * 5)
    unfold didW0 doW0 at d0 d1 d2 d3 d4 df0 df1 df2 df3 df4
    clear hS6
    clear a2 a3 h2
    go_enter Tryz.func105, Tryz.ntmps105
    go_wp2
    clear d0 d1 d2 d3 d4 df0 df1 df2 df3 df4 x0 x1 y0 y1 y2 z0 z1 z2 z3 z4 hXl hYl hZl c0 c1 c2 c3 c4
    have HP := jD (HD6.out.put (wz := didW0 w (.slice D W.rows.length d) (.slice (some ⟨S, 0, none⟩) W.ss.length cap) 3 key val 0 (.slice A3 s.sav.length n3) (.slice A2 s.prep.length n2) (.slice none 0 0) (.slice none 0 0)) (s' := { s with st := 0, set := s.sav, sav := [], wr := [] }) (rows' := W.rows) (u1 := .slice A3 s.sav.length n3) (u2 := .slice A2 s.prep.length n2) (u3 := .slice none 0 0) (u4 := .slice none 0 0) HH.out HQ.out HI.out.1 (rz := .slice D W.rows.length d) HD6.out.X (fun b h1 h2 => rfl) (by first | rfl | simp [World.setCell]) ⟨rfl, rfl, rfl⟩ (HH.out.rows.step HD6.out.bel) (HS.out.core.l3.step HD6.out.bel) (HS.out.core.l2.step HD6.out.bel) (Lst.none_ _ _) (Lst.none_ _ _) (oldT HQ.out HH.out.rows HH.out.rin) (oldT HQ.out HS.out.core.l3 HS.out.p3) (oldT HQ.out HS.out.core.l2 HS.out.p2) (InP.nil_ _ _) (InP.nil_ _ _))
    obtain ⟨W7, HW7⟩ : ∃ u, Hid (set5 (didW0 w (.slice D W.rows.length d) (.slice (some ⟨S, 0, none⟩) W.ss.length cap) 3 key val 0 (.slice A3 s.sav.length n3) (.slice A2 s.prep.length n2) (.slice none 0 0) (.slice none 0 0)) S (i * 5) (.int .i64 0) (.slice A3 s.sav.length n3) (.slice A2 s.prep.length n2) (.slice none 0 0) (.slice none 0 0) = u) := ⟨_, jD rfl⟩
    have e7 := HW7.out
    rw [e7] at HP
    unfold set5 didW0 doW0 at e7
    rw [e7]
    obtain ⟨W8, h8⟩ : ∃ W8, (⟨W.rows, W.ss.set i { s with st := 0, set := s.sav, sav := [], wr := [] }⟩ : Wd) = W8 := ⟨_, rfl⟩
    rw [h8] at HP
    obtain ⟨D8, m8, d8, hr8⟩ : ∃ D8 m8 d8, (.slice D W.rows.length d : Value) = .slice D8 m8 d8 := ⟨_, _, _, rfl⟩
    rw [hr8] at HP
    have HE := jD HP.out.1
    have HO := jD HP.out.2
    clear HP e7 HW7 hr8
 case' c2 =>
  intro a1 a2
  subst a1
  have t0 : (s.st == 2) = false := beq_eq_false_iff_ne.2 (by omega)
  have t1 : (s.st != 0) = false := bne_eq_false_iff_eq.2 a2
  obtain ⟨W1, HW1⟩ : ∃ u, Hid (didW0 w (.slice D W.rows.length d) (.slice (some ⟨S, 0, none⟩) W.ss.length cap) 1 key val 1 (.slice A1 s.set.length n1) (.slice A2 s.prep.length n2) (.slice A3 s.sav.length n3) (.slice A4 s.wr.length n4) = u) := ⟨_, jD rfl⟩
  have hD1 := didAt0 w (.slice D W.rows.length d) (.slice (some ⟨S, 0, none⟩) W.ss.length cap) 1 key val 1 (.slice A1 s.set.length n1) (.slice A2 s.prep.length n2) (.slice A3 s.sav.length n3) (.slice A4 s.wr.length n4)
  rw [HW1.out] at hD1
  unfold didW0 doW0 at HW1
  clear a2
  go_enter Tryz.func105, Tryz.ntmps105
  go_wp2_with fail
  rw [HW1.out]
  refine (pairs_any _ s.set _ (HS.out.core.l1.step hD1.bel)).mono ?_
  rintro e w6 ⟨v6, rfl, ho, hb6⟩
  obtain ⟨A6, m6, rfl⟩ := own_form ho
  have HD6 := jD (hD1.below hb6)
  have HO6 := jD (And.intro hD1.size ho)
  clear x0 x1 y0 y1 y2 z0 z1 z2 z3 z4 hXl hYl hZl
  obtain ⟨x0, x1⟩ := cells2 HD6.out.X
  obtain ⟨y0, y1, y2⟩ := cells3 HD6.out.Y
  obtain ⟨z0, z1, z2, z3, z4⟩ := cells5 HD6.out.Z
  have hXl := HD6.out.X.lt
  have hYl := HD6.out.Y.lt
  have hZl := HD6.out.Z.lt
  have hS6 := HH.out.blk.below HD6.out.bel hSw
  obtain ⟨s0, s1, s2, s3, s4, d0, d1, d2, d3, d4⟩ := any5 hS6 (o := i * 5) (by have := HH.out.len; have := HI.out.1; omega)
  obtain ⟨df0, df1, df2, df3, df4⟩ := frozen5 hS6 (i * 5)
  have hSz := hS6.lt
  obtain ⟨zf0, zf1, zf2, zf3, zf4⟩ := frozen5 HD6.out.Z 0
  simp only [Nat.zero_add] at zf1 zf2 zf3 zf4
  have xf0 := HD6.out.X.frozen 0
  clear hS6
  clear hb6 ho hD1 HW1
  go_wp2
  clear d0 d1 d2 d3 d4 df0 df1 df2 df3 df4 x0 x1 y0 y1 y2 z0 z1 z2 z3 z4 hXl hYl hZl c0 c1 c2 c3 c4
  clear hSz zf0 zf1 zf2 zf3 zf4 xf0
  have HP := jD (HD6.out.put (wz := w6.setCell ⟨w.heap.size + 1 + 1 + 1 + 1, 3, none⟩ (.slice A6 s.set.length m6)) (s' := { s with st := 1, sav := s.set }) (rows' := W.rows) (u1 := .slice A1 s.set.length n1) (u2 := .slice A2 s.prep.length n2) (u3 := .slice A6 s.set.length m6) (u4 := .slice A4 s.wr.length n4) HH.out HQ.out HI.out.1 (rz := .slice D W.rows.length d) (HD6.out.X.other (p := ⟨w.heap.size + 1 + 1 + 1 + 1, 3, none⟩) (by show w.heap.size + 1 + 1 + 1 + 1 ≠ w.heap.size; omega) (.slice A6 s.set.length m6)) (fun b h1 h2 => Below.heap_setCell _ _ _ _ h2) (by first | rfl | simp [World.setCell]) ⟨rfl, rfl, rfl⟩ (HH.out.rows.step HD6.out.bel) (HS.out.core.l1.step HD6.out.bel) (HS.out.core.l2.step HD6.out.bel) (own_lst HO6.out.2 HS.out.core.l1.bytes HS.out.core.l1.sizes) (HS.out.core.l4.step HD6.out.bel) (oldT HQ.out HH.out.rows HH.out.rin) (oldT HQ.out HS.out.core.l1 HS.out.p1) (oldT HQ.out HS.out.core.l2 HS.out.p2) (newT HN.out hSw HO6.out.1 HO6.out.2) (oldT HQ.out HS.out.core.l4 HS.out.p4))
  obtain ⟨W7, HW7⟩ : ∃ u, Hid (set5 (w6.setCell ⟨w.heap.size + 1 + 1 + 1 + 1, 3, none⟩ (.slice A6 s.set.length m6)) S (i * 5) (.int .i64 1) (.slice A1 s.set.length n1) (.slice A2 s.prep.length n2) (.slice A6 s.set.length m6) (.slice A4 s.wr.length n4) = u) := ⟨_, jD rfl⟩
  have e7 := HW7.out
  rw [e7] at HP
  unfold set5 at e7
  rw [e7]
  obtain ⟨W8, h8⟩ : ∃ W8, (⟨W.rows, W.ss.set i { s with st := 1, sav := s.set }⟩ : Wd) = W8 := ⟨_, rfl⟩
  rw [h8] at HP
  obtain ⟨D8, m8, d8, hr8⟩ : ∃ D8 m8 d8, (.slice D W.rows.length d : Value) = .slice D8 m8 d8 := ⟨_, _, _, rfl⟩
  rw [hr8] at HP
  have HE := jD HP.out.1
  have HO := jD HP.out.2
  clear HP e7 HW7 hr8
 case' c13 =>
  intro a1 a2 a3
  subst a1
  have t0 : (s.st == 2) = false := beq_eq_false_iff_ne.2 a2
  have HPZ := jD (plusZ (pairsB_sz (by omega) hRE.out.1.set) HZ.out)
  clear a2
  go_enter Tryz.func105, Tryz.ntmps105
  go_wp2_with fail
  rw [HW5.out]
  refine (at_any _ s.set key _ _ (HS.out.core.l1.step HD.out.bel)).mono ?_
  rw [atV_eq]
  rintro e w5 ⟨rfl, rfl⟩
  rcases a3 with ⟨v, hv⟩ | ⟨hv, hl⟩
  all_goals rw [hv]
  all_goals
   go_wp2_with fail
   refine (plus_any _ s.set key val _ (HS.out.core.l1.step HD.out.bel)).mono ?_
   rintro e w6 ⟨v6, rfl, ho, hb6⟩
   obtain ⟨A6, m6, rfl⟩ := own_form ho
   have HD6 := jD (HD.out.below hb6)
   have HO6 := jD (And.intro HD.out.size ho)
   clear x0 x1 y0 y1 y2 z0 z1 z2 z3 z4 hXl hYl hZl
   obtain ⟨x0, x1⟩ := cells2 HD6.out.X
   obtain ⟨y0, y1, y2⟩ := cells3 HD6.out.Y
   obtain ⟨z0, z1, z2, z3, z4⟩ := cells5 HD6.out.Z
   have hXl := HD6.out.X.lt
   have hYl := HD6.out.Y.lt
   have hZl := HD6.out.Z.lt
   have hS6 := HH.out.blk.below HD6.out.bel hSw
   obtain ⟨s0, s1, s2, s3, s4, d0, d1, d2, d3, d4⟩ := any5 hS6 (o := i * 5) (by have := HH.out.len; have := HI.out.1; omega)
   obtain ⟨df0, df1, df2, df3, df4⟩ := frozen5 hS6 (i * 5)
   have hSz := hS6.lt
   obtain ⟨zf0, zf1, zf2, zf3, zf4⟩ := frozen5 HD6.out.Z 0
   simp only [Nat.zero_add] at zf1 zf2 zf3 zf4
   have xf0 := HD6.out.X.frozen 0
   clear hS6
   clear hb6 ho
   go_wp2
   clear d0 d1 d2 d3 d4 df0 df1 df2 df3 df4 x0 x1 y0 y1 y2 z0 z1 z2 z3 z4 hXl hYl hZl c0 c1 c2 c3 c4
   clear hSz zf0 zf1 zf2 zf3 zf4 xf0
   have HP := jD (HD6.out.put (wz := w6.setCell ⟨w.heap.size + 1 + 1 + 1 + 1, 1, none⟩ (.slice A6 (plusL s.set key val).length m6)) (s' := { s with set := plusL s.set key val }) (rows' := W.rows) (u1 := .slice A6 (plusL s.set key val).length m6) (u2 := .slice A2 s.prep.length n2) (u3 := .slice A3 s.sav.length n3) (u4 := .slice A4 s.wr.length n4) HH.out HQ.out HI.out.1 (rz := .slice D W.rows.length d) (HD6.out.X.other (p := ⟨w.heap.size + 1 + 1 + 1 + 1, 1, none⟩) (by show w.heap.size + 1 + 1 + 1 + 1 ≠ w.heap.size; omega) (.slice A6 (plusL s.set key val).length m6)) (fun b h1 h2 => Below.heap_setCell _ _ _ _ h2) (by first | rfl | simp [World.setCell]) ⟨rfl, rfl, rfl⟩ (HH.out.rows.step HD6.out.bel) (own_lst HO6.out.2 HPZ.out.1 HPZ.out.2) (HS.out.core.l2.step HD6.out.bel) (HS.out.core.l3.step HD6.out.bel) (HS.out.core.l4.step HD6.out.bel) (oldT HQ.out HH.out.rows HH.out.rin) (newT HN.out hSw HO6.out.1 HO6.out.2) (oldT HQ.out HS.out.core.l2 HS.out.p2) (oldT HQ.out HS.out.core.l3 HS.out.p3) (oldT HQ.out HS.out.core.l4 HS.out.p4))
   obtain ⟨W7, HW7⟩ : ∃ u, Hid (set5 (w6.setCell ⟨w.heap.size + 1 + 1 + 1 + 1, 1, none⟩ (.slice A6 (plusL s.set key val).length m6)) S (i * 5) (.int .i64 s.st) (.slice A6 (plusL s.set key val).length m6) (.slice A2 s.prep.length n2) (.slice A3 s.sav.length n3) (.slice A4 s.wr.length n4) = u) := ⟨_, jD rfl⟩
   have e7 := HW7.out
   rw [e7] at HP
   unfold set5 at e7
   rw [e7]
   obtain ⟨W8, h8⟩ : ∃ W8, (⟨W.rows, W.ss.set i { s with set := plusL s.set key val }⟩ : Wd) = W8 := ⟨_, rfl⟩
   rw [h8] at HP
   obtain ⟨D8, m8, d8, hr8⟩ : ∃ D8 m8 d8, (.slice D W.rows.length d : Value) = .slice D8 m8 d8 := ⟨_, _, _, rfl⟩
   rw [hr8] at HP
   have HE := jD HP.out.1
   have HO := jD HP.out.2
   clear HP e7 HW7 hr8
 case' c15 =>
  intro a1 a2 a3
  subst a1
  have t0 : (s.st == 2) = false := beq_eq_false_iff_ne.2 a2
  have HPZ := jD (plusZ (pairsB_sz (by omega) hRE.out.1.prep) HZ.out)
  clear a2
  go_enter Tryz.func105, Tryz.ntmps105
  go_wp2_with fail
  rw [HW5.out]
  refine (at_any _ s.prep key _ _ (HS.out.core.l2.step HD.out.bel)).mono ?_
  rw [atV_eq]
  rintro e w5 ⟨rfl, rfl⟩
  rcases a3 with ⟨v, hv⟩ | ⟨hv, hl⟩
  all_goals rw [hv]
  all_goals
   go_wp2_with fail
   refine (plus_any _ s.prep key val _ (HS.out.core.l2.step HD.out.bel)).mono ?_
   rintro e w6 ⟨v6, rfl, ho, hb6⟩
   obtain ⟨A6, m6, rfl⟩ := own_form ho
   have HD6 := jD (HD.out.below hb6)
   have HO6 := jD (And.intro HD.out.size ho)
   clear x0 x1 y0 y1 y2 z0 z1 z2 z3 z4 hXl hYl hZl
   obtain ⟨x0, x1⟩ := cells2 HD6.out.X
   obtain ⟨y0, y1, y2⟩ := cells3 HD6.out.Y
   obtain ⟨z0, z1, z2, z3, z4⟩ := cells5 HD6.out.Z
   have hXl := HD6.out.X.lt
   have hYl := HD6.out.Y.lt
   have hZl := HD6.out.Z.lt
   have hS6 := HH.out.blk.below HD6.out.bel hSw
   obtain ⟨s0, s1, s2, s3, s4, d0, d1, d2, d3, d4⟩ := any5 hS6 (o := i * 5) (by have := HH.out.len; have := HI.out.1; omega)
   obtain ⟨df0, df1, df2, df3, df4⟩ := frozen5 hS6 (i * 5)
   have hSz := hS6.lt
   obtain ⟨zf0, zf1, zf2, zf3, zf4⟩ := frozen5 HD6.out.Z 0
   simp only [Nat.zero_add] at zf1 zf2 zf3 zf4
   have xf0 := HD6.out.X.frozen 0
   clear hS6
   clear hb6 ho
   go_wp2
   clear d0 d1 d2 d3 d4 df0 df1 df2 df3 df4 x0 x1 y0 y1 y2 z0 z1 z2 z3 z4 hXl hYl hZl c0 c1 c2 c3 c4
   clear hSz zf0 zf1 zf2 zf3 zf4 xf0
   have HP := jD (HD6.out.put (wz := w6.setCell ⟨w.heap.size + 1 + 1 + 1 + 1, 2, none⟩ (.slice A6 (plusL s.prep key val).length m6)) (s' := { s with prep := plusL s.prep key val }) (rows' := W.rows) (u1 := .slice A1 s.set.length n1) (u2 := .slice A6 (plusL s.prep key val).length m6) (u3 := .slice A3 s.sav.length n3) (u4 := .slice A4 s.wr.length n4) HH.out HQ.out HI.out.1 (rz := .slice D W.rows.length d) (HD6.out.X.other (p := ⟨w.heap.size + 1 + 1 + 1 + 1, 2, none⟩) (by show w.heap.size + 1 + 1 + 1 + 1 ≠ w.heap.size; omega) (.slice A6 (plusL s.prep key val).length m6)) (fun b h1 h2 => Below.heap_setCell _ _ _ _ h2) (by first | rfl | simp [World.setCell]) ⟨rfl, rfl, rfl⟩ (HH.out.rows.step HD6.out.bel) (HS.out.core.l1.step HD6.out.bel) (own_lst HO6.out.2 HPZ.out.1 HPZ.out.2) (HS.out.core.l3.step HD6.out.bel) (HS.out.core.l4.step HD6.out.bel) (oldT HQ.out HH.out.rows HH.out.rin) (oldT HQ.out HS.out.core.l1 HS.out.p1) (newT HN.out hSw HO6.out.1 HO6.out.2) (oldT HQ.out HS.out.core.l3 HS.out.p3) (oldT HQ.out HS.out.core.l4 HS.out.p4))
   obtain ⟨W7, HW7⟩ : ∃ u, Hid (set5 (w6.setCell ⟨w.heap.size + 1 + 1 + 1 + 1, 2, none⟩ (.slice A6 (plusL s.prep key val).length m6)) S (i * 5) (.int .i64 s.st) (.slice A1 s.set.length n1) (.slice A6 (plusL s.prep key val).length m6) (.slice A3 s.sav.length n3) (.slice A4 s.wr.length n4) = u) := ⟨_, jD rfl⟩
   have e7 := HW7.out
   rw [e7] at HP
   unfold set5 at e7
   rw [e7]
   obtain ⟨W8, h8⟩ : ∃ W8, (⟨W.rows, W.ss.set i { s with prep := plusL s.prep key val }⟩ : Wd) = W8 := ⟨_, rfl⟩
   rw [h8] at HP
   obtain ⟨D8, m8, d8, hr8⟩ : ∃ D8 m8 d8, (.slice D W.rows.length d : Value) = .slice D8 m8 d8 := ⟨_, _, _, rfl⟩
   rw [hr8] at HP
   have HE := jD HP.out.1
   have HO := jD HP.out.2
   clear HP e7 HW7 hr8
 case' c18 =>
  intro a1 a2 a3 a4 a5
  subst a1
  have t0 : (s.st == 2) = false := beq_eq_false_iff_ne.2 a2
  have t1 : (100 : Int) ≤ ((allL W).length : Int) := by omega
  clear a2 a5
  obtain ⟨o, HOA⟩ : ∃ o, Hid (atL (allL W) key = o) := ⟨_, jD rfl⟩
  have HA4 := jD a4
  clear a4
  go_enter Tryz.func105, Tryz.ntmps105
  go_wp2_with fail
  rw [HW5.out]
  refine (isHeld_any _ _ W i key _ (HH.out.below HD.out.bel).wld).mono ?_
  rw [a3]
  rintro e wa ⟨rfl, hba⟩
  have HDa := jD (HD.out.below hba)
  have HAZ := jD (all_sz HW.out)
  clear x0 x1 y0 y1 y2 z0 z1 z2 z3 z4 hXl hYl hZl
  obtain ⟨x0, x1⟩ := cells2 HDa.out.X
  obtain ⟨y0, y1, y2⟩ := cells3 HDa.out.Y
  obtain ⟨z0, z1, z2, z3, z4⟩ := cells5 HDa.out.Z
  have hXl := HDa.out.X.lt
  have hYl := HDa.out.Y.lt
  have hZl := HDa.out.Z.lt
  clear hba a3
  go_wp2_with fail
  refine wp_free 9 [7] [] [] [(0, 250), (1, 251), (2, 252), (3, 253), (4, 254), (5, 249), (6, 255), (7, 256)] [[], [(0, 250)], [], [(2, 252)], [(1, 251), (3, 253)], [(4, 254)], [(5, 249)], [(5, 249)]] (fun i v wv => match i with | 0 => v = .agg #[.slice D W.rows.length d, .slice (some ⟨S, 0, none⟩) W.ss.length cap] | 1 => Lst wv wv.heap.size v (allL W) | 2 => v = .pointer (some ⟨w.heap.size + 1, 1, none⟩) | 3 => v = .string key | 4 => v = .tuple #[.string (o.getD ⟨#[]⟩), .bool o.isSome] | 5 => v = .tuple #[.string (o.getD ⟨#[]⟩), .bool o.isSome] | 6 => v = .string (o.getD ⟨#[]⟩) | 7 => v = .bool o.isSome | _ => True) (fun _ w w' => Below w.heap.size w w') (fun wc => Below wa.heap.size wa wc) 2 (by kernel_rfl) (by rfl) (by kernel_rfl) (fun _ _ _ _ _ h => h) (Below.refl _ _).drew (fun _ _ => Below.refl _ _) ?n18amo (fun k w w' h hb => bel_trans h hb) ?n18aob ?n18aof ?n18afi
  case n18amo =>
   intro k i v w w' hk1 hk2 hk3 h hb
   rcases i with _ | _ | _ | _ | _ | _ | _ | _ | i
   ·exact h
   ·exact h.step hb
   ·exact h
   ·exact h
   ·exact h
   ·exact h
   ·exact h
   ·exact h
   ·exact h
  case n18aob =>
   intro i hi hnf vals wc hR hV
   rcases i with _ | _ | _ | _ | _ | _ | _ | _ | i
   ·clear hV hnf hi
    have qx0 := (hR.cell (p := ⟨w.heap.size, 0, none⟩) hXl).trans x0
    have qx1 := (hR.cell (p := ⟨w.heap.size, 1, none⟩) hXl).trans x1
    refine ⟨_, rfl, Or.inl ⟨by rfl, Or.inl ⟨.agg #[.slice D W.rows.length d, .slice (some ⟨S, 0, none⟩) W.ss.length cap], wc, ?_, rfl, (Below.refl _ _)⟩⟩⟩
    (try simp only [putF, List.getD_cons_succ, List.getD_cons_zero, Go.Act.put, sTA, sCZ, sCS])
    go_simp
    try rfl
   ·have h0 : (vals 0) = .agg #[.slice D W.rows.length d, .slice (some ⟨S, 0, none⟩) W.ss.length cap] := hV (0, 250) (by decide)
    clear hV hnf hi
    refine ⟨_, rfl, Or.inl ⟨by rfl, Or.inr ⟨128, #[.agg #[.slice D W.rows.length d, .slice (some ⟨S, 0, none⟩) W.ss.length cap]], ?_, ?_⟩⟩⟩
    ·(try simp only [putF, List.getD_cons_succ, List.getD_cons_zero, Go.Act.put, sTA, sCZ, sCS, h0])
     go_simp
     try rfl
    ·refine ((allRows_any _ _ W wc (HH.out.below (bel_add' HDa.out.bel hR HDa.out.bel.size)).wld (worldOk_sz HW.out).rows.1 HW.out.many (fun x hx => ((worldOk_sz HW.out).li x 3 hx (by omega)).1))).mono ?_
     rintro e w' ⟨v', rfl, ho, hb⟩
     exact ⟨_, rfl, own_lst ho HAZ.out.1 HAZ.out.2, hb⟩
   ·clear hV hnf hi
    refine ⟨_, rfl, Or.inl ⟨by rfl, Or.inl ⟨.pointer (some ⟨w.heap.size + 1, 1, none⟩), wc, ?_, rfl, (Below.refl _ _)⟩⟩⟩
    (try simp only [putF, List.getD_cons_succ, List.getD_cons_zero, Go.Act.put, sTA, sCZ, sCS])
    go_simp
    try rfl
   ·have h2 : (vals 2) = .pointer (some ⟨w.heap.size + 1, 1, none⟩) := hV (2, 252) (by decide)
    clear hV hnf hi
    have qy1 := (hR.cell (p := ⟨w.heap.size + 1, 1, none⟩) hYl).trans y1
    refine ⟨_, rfl, Or.inl ⟨by rfl, Or.inl ⟨.string key, wc, ?_, rfl, (Below.refl _ _)⟩⟩⟩
    (try simp only [putF, List.getD_cons_succ, List.getD_cons_zero, Go.Act.put, sTA, sCZ, sCS, h2])
    go_simp
    try rfl
   ·have h1 : Lst wc wc.heap.size (vals 1) (allL W) := hV (1, 251) (by decide)
    have h3 : (vals 3) = .string key := hV (3, 253) (by decide)
    clear hV hnf hi
    refine ⟨_, rfl, Or.inl ⟨by rfl, Or.inr ⟨125, #[vals 1, .string key], ?_, ?_⟩⟩⟩
    ·(try simp only [putF, List.getD_cons_succ, List.getD_cons_zero, Go.Act.put, sTA, sCZ, sCS, h3])
     go_simp
     try rfl
    ·refine (at_any _ (allL W) key _ _ h1).mono ?_
     rw [HOA.out, atV_eq]
     rintro e w' ⟨rfl, rfl⟩
     exact ⟨_, rfl, rfl, Below.refl _ _⟩
   ·have h4 : (vals 4) = .tuple #[.string (o.getD ⟨#[]⟩), .bool o.isSome] := hV (4, 254) (by decide)
    clear hV hnf hi
    refine ⟨_, rfl, Or.inl ⟨by rfl, Or.inl ⟨.tuple #[.string (o.getD ⟨#[]⟩), .bool o.isSome], wc, ?_, rfl, (Below.refl _ _)⟩⟩⟩
    (try simp only [putF, List.getD_cons_succ, List.getD_cons_zero, Go.Act.put, sTA, sCZ, sCS, h4])
    go_simp
    try rfl
   ·have h5 : (vals 5) = .tuple #[.string (o.getD ⟨#[]⟩), .bool o.isSome] := hV (5, 249) (by decide)
    clear hV hnf hi
    refine ⟨_, rfl, Or.inl ⟨by rfl, Or.inl ⟨.string (o.getD ⟨#[]⟩), wc, ?_, rfl, (Below.refl _ _)⟩⟩⟩
    (try simp only [putF, List.getD_cons_succ, List.getD_cons_zero, Go.Act.put, sTA, sCZ, sCS, h5])
    go_simp
    try rfl
   ·exact absurd (by decide) hnf
   ·exact absurd hi (by simp)
  case n18aof =>
   intro i hi vals wc hR hV
   obtain rfl := List.mem_singleton.1 hi
   ·have h5 : (vals 5) = .tuple #[.string (o.getD ⟨#[]⟩), .bool o.isSome] := hV (5, 249) (by decide)
    clear hV hi
    refine ⟨_, .bool o.isSome, rfl, by rfl, fun w' => ?_, rfl⟩
    (try simp only [putF, List.getD_cons_succ, List.getD_cons_zero, Go.Act.put, sTA, sCZ, sCS, h5])
    go_simp
    try rfl
  case n18afi =>
   intro vals wf hR hV
   have hS := True.intro
   have f6 : (vals 6) = .string (o.getD ⟨#[]⟩) := hV 6 (by decide) (fun k hk => by simp at hk)
   have f7 : (vals 7) = .bool o.isSome := hV 7 (by decide) (fun k hk => by simp at hk)
   clear hV
   (try simp only [putF, List.getD_cons_succ, List.getD_cons_zero, Go.Act.put, sTA, sCZ, sCS, f6, f7])
   have HDf := jD (HDa.out.below hR)
   clear hR x0 x1 y0 y1 y2 z0 z1 z2 z3 z4 hXl hYl hZl
   refine wpAnyZ_one (i := 8) rfl rfl (by kernel_rfl) (fun K hK => ?_)
   (try simp only [gTA, gCZ, gCS])
   go_simp
   have hS2 := True.intro
   refine hK.out _ _ hS2 ?_
   clear hK K hS
   have hS := hS2
   clear hS2
   (try simp only [gTA, gCZ, gCS, Act.put, sTA, sCZ, sCS])
   refine wpAnyZ_last rfl rfl (by kernel_rfl) (by kernel_rfl) (fun K hK => ?_)
   (try simp only [gTA, gCZ, gCS])
   go_simp
   refine hK.out _ _ ?_
   clear hK K
   (try simp only [gTA, gCZ, gCS, Act.put, sTA, sCZ, sCS])
   obtain rfl : o = none := HOA.out.symm.trans HA4.out
   obtain ⟨x0, x1⟩ := cells2 HDf.out.X
   obtain ⟨y0, y1, y2⟩ := cells3 HDf.out.Y
   obtain ⟨z0, z1, z2, z3, z4⟩ := cells5 HDf.out.Z
   have hXl := HDf.out.X.lt
   have hYl := HDf.out.Y.lt
   have hZl := HDf.out.Z.lt
   go_wp2_with fail
   refine (allRows_any _ _ W _ (HH.out.below HDf.out.bel).wld (worldOk_sz HW.out).rows.1 HW.out.many (fun x hx => ((worldOk_sz HW.out).li x 3 hx (by omega)).1)).mono ?_
   rintro e wb ⟨vb, rfl, ho, hbb⟩
   obtain ⟨Ab, mb, rfl⟩ := own_form ho
   have HDb := jD (HDf.out.below hbb)
   clear x0 x1 y0 y1 y2 z0 z1 z2 z3 z4 hXl hYl hZl
   obtain ⟨x0, x1⟩ := cells2 HDb.out.X
   obtain ⟨y0, y1, y2⟩ := cells3 HDb.out.Y
   obtain ⟨z0, z1, z2, z3, z4⟩ := cells5 HDb.out.Z
   have hXl := HDb.out.X.lt
   have hYl := HDb.out.Y.lt
   have hZl := HDb.out.Z.lt
   clear hbb ho
   go_wp2_with fail
   have HE := jD (HDb.out.atE HH.out)
   obtain ⟨e0, e1⟩ := cells2 HE.out.X
   have hel := HE.out.X.lt
   clear x0 x1 y0 y1 y2 z0 z1 z2 z3 z4 hXl hYl hZl c0 c1 c2 c3 c4
   refine wp_freeX 3 [(0, 265), (1, 266)] [[], []] [.agg #[.slice D W.rows.length d, .slice (some ⟨S, 0, none⟩) W.ss.length cap], .agg #[.int .i64 4, .string tFull, .int .i64 0]] (fun _ w w' => Below w.heap.size w w') (fun wc => Below wb.heap.size wb wc) 2 (by kernel_rfl) (by rfl) (by kernel_rfl) (fun _ _ _ _ _ h => h) (Below.refl _ _).drew (fun _ _ => Below.refl _ _) (fun k w w' h hb => bel_trans h hb) ?n18bob ?n18bfi
   case n18bob =>
    intro i hi wc hR
    have e0' := (hR.cell (p := ⟨w.heap.size, 0, none⟩) hel).trans e0
    have e1' := (hR.cell (p := ⟨w.heap.size, 1, none⟩) hel).trans e1
    by_cases hk1 : i = 1
    ·subst hk1
     refine ⟨_, rfl, ?_, Or.inr ⟨123, #[.string tFull], ?_, ?_⟩⟩
     ·((try simp only [putF, List.getD_cons_succ, List.getD_cons_zero, Go.Act.put, sTA, sCZ, sCS]); try rfl)
     ·((try simp only [putF, List.getD_cons_succ, List.getD_cons_zero, Go.Act.put, sTA, sCZ, sCS]); go_simp; try rfl)
     ·refine (no_any tFull wc).mono ?_
      rintro e w' ⟨rfl, hb⟩
      exact ⟨rfl, hb⟩
    rcases i with _ | _ | i
    all_goals (first | contradiction | exact ⟨_, rfl, (by (try simp only [putF, List.getD_cons_succ, List.getD_cons_zero, Go.Act.put, sTA, sCZ, sCS]); try rfl), Or.inl (by (try simp only [putF, List.getD_cons_succ, List.getD_cons_zero, Go.Act.put, sTA, sCZ, sCS]); go_simp; try rfl)⟩ | exact absurd hi (by simp))
   case n18bfi =>
    intro wf hR
    have hS := True.intro
    (try simp only [putF, List.getD_cons_succ, List.getD_cons_zero, Go.Act.put, sTA, sCZ, sCS])
    obtain ⟨r0, r1⟩ := cells2 (HE.out.below hR).R
    obtain ⟨b0, b1, b2⟩ := cells3 (HE.out.below hR).A
    obtain ⟨g0, g1, _⟩ := frozen5 (HE.out.below hR).R 0
    obtain ⟨k0, k1, k2, _⟩ := frozen5 (HE.out.below hR).A 0
    simp only [Nat.zero_add] at g1 k1 k2
    have HF := jD ((HE.out.below hR).fin (no' tFull))
    clear hR e0 e1 hel
    refine wpAnyZ_one (i := 2) rfl rfl (by kernel_rfl) (fun K hK => ?_)
    (try simp only [gTA, gCZ, gCS])
    go_simp
    have hS2 := True.intro
    refine hK.out _ _ hS2 ?_
    clear hK K hS
    have hS := hS2
    clear hS2
    (try simp only [gTA, gCZ, gCS, Act.put, sTA, sCZ, sCS])
    refine wpAnyZ_last rfl rfl (by kernel_rfl) (by kernel_rfl) (fun K hK => ?_)
    (try simp only [gTA, gCZ, gCS])
    go_simp
    refine hK.out _ _ ?_
    clear hK K
    (try simp only [gTA, gCZ, gCS, Act.put, sTA, sCZ, sCS])
    go_wp2
    refine bodyPost_ret (v := .tuple #[.agg #[.slice D W.rows.length d, .slice (some ⟨S, 0, none⟩) W.ss.length cap], .agg #[.int .i64 4, .string tFull, .int .i64 0]]) (by simp [results, Tryz.results105, go_sem, r0, r1, b0, b1, b2]) rfl ?_
    exact HF.out _ _ _ _ _
 case' c19 =>
  intro a1 a2 a3 a4
  subst a1
  have t0 : (s.st == 2) = false := beq_eq_false_iff_ne.2 (by omega)
  have t1 : (s.st == 1) = true := beq_iff_eq.2 a2
  have HPZ := jD (plusZ (pairsB_sz (by omega) hRE.out.1.wr) HZ.out)
  clear a2
  obtain ⟨o, HOA⟩ : ∃ o, Hid (atL (allL W) key = o) := ⟨_, jD rfl⟩
  rw [HOA.out] at a4
  go_enter Tryz.func105, Tryz.ntmps105
  go_wp2_with fail
  rw [HW5.out]
  refine (isHeld_any _ _ W i key _ (HH.out.below HD.out.bel).wld).mono ?_
  rw [a3]
  rintro e wa ⟨rfl, hba⟩
  have HDa := jD (HD.out.below hba)
  have HAZ := jD (all_sz HW.out)
  clear x0 x1 y0 y1 y2 z0 z1 z2 z3 z4 hXl hYl hZl
  obtain ⟨x0, x1⟩ := cells2 HDa.out.X
  obtain ⟨y0, y1, y2⟩ := cells3 HDa.out.Y
  obtain ⟨z0, z1, z2, z3, z4⟩ := cells5 HDa.out.Z
  have hXl := HDa.out.X.lt
  have hYl := HDa.out.Y.lt
  have hZl := HDa.out.Z.lt
  clear hba a3
  go_wp2_with fail
  refine wp_free 9 [7] [] [] [(0, 250), (1, 251), (2, 252), (3, 253), (4, 254), (5, 249), (6, 255), (7, 256)] [[], [(0, 250)], [], [(2, 252)], [(1, 251), (3, 253)], [(4, 254)], [(5, 249)], [(5, 249)]] (fun i v wv => match i with | 0 => v = .agg #[.slice D W.rows.length d, .slice (some ⟨S, 0, none⟩) W.ss.length cap] | 1 => Lst wv wv.heap.size v (allL W) | 2 => v = .pointer (some ⟨w.heap.size + 1, 1, none⟩) | 3 => v = .string key | 4 => v = .tuple #[.string (o.getD ⟨#[]⟩), .bool o.isSome] | 5 => v = .tuple #[.string (o.getD ⟨#[]⟩), .bool o.isSome] | 6 => v = .string (o.getD ⟨#[]⟩) | 7 => v = .bool o.isSome | _ => True) (fun _ w w' => Below w.heap.size w w') (fun wc => Below wa.heap.size wa wc) 2 (by kernel_rfl) (by rfl) (by kernel_rfl) (fun _ _ _ _ _ h => h) (Below.refl _ _).drew (fun _ _ => Below.refl _ _) ?n19mo (fun k w w' h hb => bel_trans h hb) ?n19ob ?n19of ?n19fi
  case n19mo =>
   intro k i v w w' hk1 hk2 hk3 h hb
   rcases i with _ | _ | _ | _ | _ | _ | _ | _ | i
   ·exact h
   ·exact h.step hb
   ·exact h
   ·exact h
   ·exact h
   ·exact h
   ·exact h
   ·exact h
   ·exact h
  case n19ob =>
   intro i hi hnf vals wc hR hV
   rcases i with _ | _ | _ | _ | _ | _ | _ | _ | i
   ·clear hV hnf hi
    have qx0 := (hR.cell (p := ⟨w.heap.size, 0, none⟩) hXl).trans x0
    have qx1 := (hR.cell (p := ⟨w.heap.size, 1, none⟩) hXl).trans x1
    refine ⟨_, rfl, Or.inl ⟨by rfl, Or.inl ⟨.agg #[.slice D W.rows.length d, .slice (some ⟨S, 0, none⟩) W.ss.length cap], wc, ?_, rfl, (Below.refl _ _)⟩⟩⟩
    (try simp only [putF, List.getD_cons_succ, List.getD_cons_zero, Go.Act.put, sTA, sCZ, sCS])
    go_simp
    try rfl
   ·have h0 : (vals 0) = .agg #[.slice D W.rows.length d, .slice (some ⟨S, 0, none⟩) W.ss.length cap] := hV (0, 250) (by decide)
    clear hV hnf hi
    refine ⟨_, rfl, Or.inl ⟨by rfl, Or.inr ⟨128, #[.agg #[.slice D W.rows.length d, .slice (some ⟨S, 0, none⟩) W.ss.length cap]], ?_, ?_⟩⟩⟩
    ·(try simp only [putF, List.getD_cons_succ, List.getD_cons_zero, Go.Act.put, sTA, sCZ, sCS, h0])
     go_simp
     try rfl
    ·refine ((allRows_any _ _ W wc (HH.out.below (bel_add' HDa.out.bel hR HDa.out.bel.size)).wld (worldOk_sz HW.out).rows.1 HW.out.many (fun x hx => ((worldOk_sz HW.out).li x 3 hx (by omega)).1))).mono ?_
     rintro e w' ⟨v', rfl, ho, hb⟩
     exact ⟨_, rfl, own_lst ho HAZ.out.1 HAZ.out.2, hb⟩
   ·clear hV hnf hi
    refine ⟨_, rfl, Or.inl ⟨by rfl, Or.inl ⟨.pointer (some ⟨w.heap.size + 1, 1, none⟩), wc, ?_, rfl, (Below.refl _ _)⟩⟩⟩
    (try simp only [putF, List.getD_cons_succ, List.getD_cons_zero, Go.Act.put, sTA, sCZ, sCS])
    go_simp
    try rfl
   ·have h2 : (vals 2) = .pointer (some ⟨w.heap.size + 1, 1, none⟩) := hV (2, 252) (by decide)
    clear hV hnf hi
    have qy1 := (hR.cell (p := ⟨w.heap.size + 1, 1, none⟩) hYl).trans y1
    refine ⟨_, rfl, Or.inl ⟨by rfl, Or.inl ⟨.string key, wc, ?_, rfl, (Below.refl _ _)⟩⟩⟩
    (try simp only [putF, List.getD_cons_succ, List.getD_cons_zero, Go.Act.put, sTA, sCZ, sCS, h2])
    go_simp
    try rfl
   ·have h1 : Lst wc wc.heap.size (vals 1) (allL W) := hV (1, 251) (by decide)
    have h3 : (vals 3) = .string key := hV (3, 253) (by decide)
    clear hV hnf hi
    refine ⟨_, rfl, Or.inl ⟨by rfl, Or.inr ⟨125, #[vals 1, .string key], ?_, ?_⟩⟩⟩
    ·(try simp only [putF, List.getD_cons_succ, List.getD_cons_zero, Go.Act.put, sTA, sCZ, sCS, h3])
     go_simp
     try rfl
    ·refine (at_any _ (allL W) key _ _ h1).mono ?_
     rw [HOA.out, atV_eq]
     rintro e w' ⟨rfl, rfl⟩
     exact ⟨_, rfl, rfl, Below.refl _ _⟩
   ·have h4 : (vals 4) = .tuple #[.string (o.getD ⟨#[]⟩), .bool o.isSome] := hV (4, 254) (by decide)
    clear hV hnf hi
    refine ⟨_, rfl, Or.inl ⟨by rfl, Or.inl ⟨.tuple #[.string (o.getD ⟨#[]⟩), .bool o.isSome], wc, ?_, rfl, (Below.refl _ _)⟩⟩⟩
    (try simp only [putF, List.getD_cons_succ, List.getD_cons_zero, Go.Act.put, sTA, sCZ, sCS, h4])
    go_simp
    try rfl
   ·have h5 : (vals 5) = .tuple #[.string (o.getD ⟨#[]⟩), .bool o.isSome] := hV (5, 249) (by decide)
    clear hV hnf hi
    refine ⟨_, rfl, Or.inl ⟨by rfl, Or.inl ⟨.string (o.getD ⟨#[]⟩), wc, ?_, rfl, (Below.refl _ _)⟩⟩⟩
    (try simp only [putF, List.getD_cons_succ, List.getD_cons_zero, Go.Act.put, sTA, sCZ, sCS, h5])
    go_simp
    try rfl
   ·exact absurd (by decide) hnf
   ·exact absurd hi (by simp)
  case n19of =>
   intro i hi vals wc hR hV
   obtain rfl := List.mem_singleton.1 hi
   ·have h5 : (vals 5) = .tuple #[.string (o.getD ⟨#[]⟩), .bool o.isSome] := hV (5, 249) (by decide)
    clear hV hi
    refine ⟨_, .bool o.isSome, rfl, by rfl, fun w' => ?_, rfl⟩
    (try simp only [putF, List.getD_cons_succ, List.getD_cons_zero, Go.Act.put, sTA, sCZ, sCS, h5])
    go_simp
    try rfl
  case' n19fi =>
   intro vals wf hR hV
   have hS := True.intro
   have f6 : (vals 6) = .string (o.getD ⟨#[]⟩) := hV 6 (by decide) (fun k hk => by simp at hk)
   have f7 : (vals 7) = .bool o.isSome := hV 7 (by decide) (fun k hk => by simp at hk)
   clear hV
   (try simp only [putF, List.getD_cons_succ, List.getD_cons_zero, Go.Act.put, sTA, sCZ, sCS, f6, f7])
   have HDf := jD (HDa.out.below hR)
   clear hR x0 x1 y0 y1 y2 z0 z1 z2 z3 z4 hXl hYl hZl
   refine wpAnyZ_one (i := 8) rfl rfl (by kernel_rfl) (fun K hK => ?_)
   (try simp only [gTA, gCZ, gCS])
   go_simp
   have hS2 := True.intro
   refine hK.out _ _ hS2 ?_
   clear hK K hS
   have hS := hS2
   clear hS2
   (try simp only [gTA, gCZ, gCS, Act.put, sTA, sCZ, sCS])
   refine wpAnyZ_last rfl rfl (by kernel_rfl) (by kernel_rfl) (fun K hK => ?_)
   (try simp only [gTA, gCZ, gCS])
   go_simp
   refine hK.out _ _ ?_
   clear hK K
   (try simp only [gTA, gCZ, gCS, Act.put, sTA, sCZ, sCS])
   rcases a4 with ⟨v, rfl⟩ | ⟨rfl, hl⟩
   case' inl =>
    obtain ⟨x0, x1⟩ := cells2 HDf.out.X
    obtain ⟨y0, y1, y2⟩ := cells3 HDf.out.Y
    obtain ⟨z0, z1, z2, z3, z4⟩ := cells5 HDf.out.Z
    have hXl := HDf.out.X.lt
    have hYl := HDf.out.Y.lt
    have hZl := HDf.out.Z.lt
    go_wp2_with fail
    obtain ⟨w9, HW9⟩ : ∃ u, Hid (wf = u) := ⟨_, jD rfl⟩
    have HD9 := HDf
    rw [HW9.out] at HD9 ⊢
    clear HW9 HDf
   case' inr =>
    obtain ⟨x0, x1⟩ := cells2 HDf.out.X
    obtain ⟨y0, y1, y2⟩ := cells3 HDf.out.Y
    obtain ⟨z0, z1, z2, z3, z4⟩ := cells5 HDf.out.Z
    have hXl := HDf.out.X.lt
    have hYl := HDf.out.Y.lt
    have hZl := HDf.out.Z.lt
    go_wp2_with fail
    refine (allRows_any _ _ W _ (HH.out.below HDf.out.bel).wld (worldOk_sz HW.out).rows.1 HW.out.many (fun x hx => ((worldOk_sz HW.out).li x 3 hx (by omega)).1)).mono ?_
    rintro e wb ⟨vb, rfl, ho, hbb⟩
    obtain ⟨Ab, mb, rfl⟩ := own_form ho
    have HDb := jD (HDf.out.below hbb)
    clear x0 x1 y0 y1 y2 z0 z1 z2 z3 z4 hXl hYl hZl
    obtain ⟨x0, x1⟩ := cells2 HDb.out.X
    obtain ⟨y0, y1, y2⟩ := cells3 HDb.out.Y
    obtain ⟨z0, z1, z2, z3, z4⟩ := cells5 HDb.out.Z
    have hXl := HDb.out.X.lt
    have hYl := HDb.out.Y.lt
    have hZl := HDb.out.Z.lt
    clear hbb ho
    have hlI : ((allL W).length : Int) < 100 := by omega
    go_wp2_with fail
    obtain ⟨w9, HW9⟩ : ∃ u, Hid (wb = u) := ⟨_, jD rfl⟩
    have HD9 := HDb
    rw [HW9.out] at HD9 ⊢
    clear HW9 HDb HDf hl hlI
   all_goals
    refine (plus_any _ s.wr key val _ (HS.out.core.l4.step HD9.out.bel)).mono ?_
    rintro e w6 ⟨v6, rfl, ho, hb6⟩
    obtain ⟨A6, m6, rfl⟩ := own_form ho
    have HD6 := jD (HD9.out.below hb6)
    have HO6 := jD (And.intro HD9.out.size ho)
    clear x0 x1 y0 y1 y2 z0 z1 z2 z3 z4 hXl hYl hZl
    obtain ⟨x0, x1⟩ := cells2 HD6.out.X
    obtain ⟨y0, y1, y2⟩ := cells3 HD6.out.Y
    obtain ⟨z0, z1, z2, z3, z4⟩ := cells5 HD6.out.Z
    have hXl := HD6.out.X.lt
    have hYl := HD6.out.Y.lt
    have hZl := HD6.out.Z.lt
    have hS6 := HH.out.blk.below HD6.out.bel hSw
    obtain ⟨s0, s1, s2, s3, s4, d0, d1, d2, d3, d4⟩ := any5 hS6 (o := i * 5) (by have := HH.out.len; have := HI.out.1; omega)
    obtain ⟨df0, df1, df2, df3, df4⟩ := frozen5 hS6 (i * 5)
    have hSz := hS6.lt
    obtain ⟨zf0, zf1, zf2, zf3, zf4⟩ := frozen5 HD6.out.Z 0
    simp only [Nat.zero_add] at zf1 zf2 zf3 zf4
    have xf0 := HD6.out.X.frozen 0
    clear hS6
    clear hb6 ho
    go_wp2
    clear d0 d1 d2 d3 d4 df0 df1 df2 df3 df4 x0 x1 y0 y1 y2 z0 z1 z2 z3 z4 hXl hYl hZl c0 c1 c2 c3 c4
    clear hSz zf0 zf1 zf2 zf3 zf4 xf0
    have HP := jD (HD6.out.put (wz := w6.setCell ⟨w.heap.size + 1 + 1 + 1 + 1, 4, none⟩ (.slice A6 (plusL s.wr key val).length m6)) (s' := { s with wr := plusL s.wr key val }) (rows' := W.rows) (u1 := .slice A1 s.set.length n1) (u2 := .slice A2 s.prep.length n2) (u3 := .slice A3 s.sav.length n3) (u4 := .slice A6 (plusL s.wr key val).length m6) HH.out HQ.out HI.out.1 (rz := .slice D W.rows.length d) (HD6.out.X.other (p := ⟨w.heap.size + 1 + 1 + 1 + 1, 4, none⟩) (by show w.heap.size + 1 + 1 + 1 + 1 ≠ w.heap.size; omega) (.slice A6 (plusL s.wr key val).length m6)) (fun b h1 h2 => Below.heap_setCell _ _ _ _ h2) (by first | rfl | simp [World.setCell]) ⟨rfl, rfl, rfl⟩ (HH.out.rows.step HD6.out.bel) (HS.out.core.l1.step HD6.out.bel) (HS.out.core.l2.step HD6.out.bel) (HS.out.core.l3.step HD6.out.bel) (own_lst HO6.out.2 HPZ.out.1 HPZ.out.2) (oldT HQ.out HH.out.rows HH.out.rin) (oldT HQ.out HS.out.core.l1 HS.out.p1) (oldT HQ.out HS.out.core.l2 HS.out.p2) (oldT HQ.out HS.out.core.l3 HS.out.p3) (newT HN.out hSw HO6.out.1 HO6.out.2))
    obtain ⟨W7, HW7⟩ : ∃ u, Hid (set5 (w6.setCell ⟨w.heap.size + 1 + 1 + 1 + 1, 4, none⟩ (.slice A6 (plusL s.wr key val).length m6)) S (i * 5) (.int .i64 s.st) (.slice A1 s.set.length n1) (.slice A2 s.prep.length n2) (.slice A3 s.sav.length n3) (.slice A6 (plusL s.wr key val).length m6) = u) := ⟨_, jD rfl⟩
    have e7 := HW7.out
    rw [e7] at HP
    unfold set5 at e7
    rw [e7]
    obtain ⟨W8, h8⟩ : ∃ W8, (⟨W.rows, W.ss.set i { s with wr := plusL s.wr key val }⟩ : Wd) = W8 := ⟨_, rfl⟩
    rw [h8] at HP
    obtain ⟨D8, m8, d8, hr8⟩ : ∃ D8 m8 d8, (.slice D W.rows.length d : Value) = .slice D8 m8 d8 := ⟨_, _, _, rfl⟩
    rw [hr8] at HP
    have HE := jD HP.out.1
    have HO := jD HP.out.2
    clear HP e7 HW7 hr8
 case' c20 =>
  intro a1 a2 a3 a4
  subst a1
  have t0 : (s.st == 2) = false := beq_eq_false_iff_ne.2 (by omega)
  have t1 : (s.st == 1) = false := beq_eq_false_iff_ne.2 (by omega)
  have HPZ := jD (plusZ (worldOk_sz HW.out).rows HZ.out)
  clear a2
  obtain ⟨o, HOA⟩ : ∃ o, Hid (atL (allL W) key = o) := ⟨_, jD rfl⟩
  rw [HOA.out] at a4
  go_enter Tryz.func105, Tryz.ntmps105
  go_wp2_with fail
  rw [HW5.out]
  refine (isHeld_any _ _ W i key _ (HH.out.below HD.out.bel).wld).mono ?_
  rw [a3]
  rintro e wa ⟨rfl, hba⟩
  have HDa := jD (HD.out.below hba)
  have HAZ := jD (all_sz HW.out)
  clear x0 x1 y0 y1 y2 z0 z1 z2 z3 z4 hXl hYl hZl
  obtain ⟨x0, x1⟩ := cells2 HDa.out.X
  obtain ⟨y0, y1, y2⟩ := cells3 HDa.out.Y
  obtain ⟨z0, z1, z2, z3, z4⟩ := cells5 HDa.out.Z
  have hXl := HDa.out.X.lt
  have hYl := HDa.out.Y.lt
  have hZl := HDa.out.Z.lt
  clear hba a3
  go_wp2_with fail
  refine wp_free 9 [7] [] [] [(0, 250), (1, 251), (2, 252), (3, 253), (4, 254), (5, 249), (6, 255), (7, 256)] [[], [(0, 250)], [], [(2, 252)], [(1, 251), (3, 253)], [(4, 254)], [(5, 249)], [(5, 249)]] (fun i v wv => match i with | 0 => v = .agg #[.slice D W.rows.length d, .slice (some ⟨S, 0, none⟩) W.ss.length cap] | 1 => Lst wv wv.heap.size v (allL W) | 2 => v = .pointer (some ⟨w.heap.size + 1, 1, none⟩) | 3 => v = .string key | 4 => v = .tuple #[.string (o.getD ⟨#[]⟩), .bool o.isSome] | 5 => v = .tuple #[.string (o.getD ⟨#[]⟩), .bool o.isSome] | 6 => v = .string (o.getD ⟨#[]⟩) | 7 => v = .bool o.isSome | _ => True) (fun _ w w' => Below w.heap.size w w') (fun wc => Below wa.heap.size wa wc) 2 (by kernel_rfl) (by rfl) (by kernel_rfl) (fun _ _ _ _ _ h => h) (Below.refl _ _).drew (fun _ _ => Below.refl _ _) ?n20mo (fun k w w' h hb => bel_trans h hb) ?n20ob ?n20of ?n20fi
  case n20mo =>
   intro k i v w w' hk1 hk2 hk3 h hb
   rcases i with _ | _ | _ | _ | _ | _ | _ | _ | i
   ·exact h
   ·exact h.step hb
   ·exact h
   ·exact h
   ·exact h
   ·exact h
   ·exact h
   ·exact h
   ·exact h
  case n20ob =>
   intro i hi hnf vals wc hR hV
   rcases i with _ | _ | _ | _ | _ | _ | _ | _ | i
   ·clear hV hnf hi
    have qx0 := (hR.cell (p := ⟨w.heap.size, 0, none⟩) hXl).trans x0
    have qx1 := (hR.cell (p := ⟨w.heap.size, 1, none⟩) hXl).trans x1
    refine ⟨_, rfl, Or.inl ⟨by rfl, Or.inl ⟨.agg #[.slice D W.rows.length d, .slice (some ⟨S, 0, none⟩) W.ss.length cap], wc, ?_, rfl, (Below.refl _ _)⟩⟩⟩
    (try simp only [putF, List.getD_cons_succ, List.getD_cons_zero, Go.Act.put, sTA, sCZ, sCS])
    go_simp
    try rfl
   ·have h0 : (vals 0) = .agg #[.slice D W.rows.length d, .slice (some ⟨S, 0, none⟩) W.ss.length cap] := hV (0, 250) (by decide)
    clear hV hnf hi
    refine ⟨_, rfl, Or.inl ⟨by rfl, Or.inr ⟨128, #[.agg #[.slice D W.rows.length d, .slice (some ⟨S, 0, none⟩) W.ss.length cap]], ?_, ?_⟩⟩⟩
    ·(try simp only [putF, List.getD_cons_succ, List.getD_cons_zero, Go.Act.put, sTA, sCZ, sCS, h0])
     go_simp
     try rfl
    ·refine ((allRows_any _ _ W wc (HH.out.below (bel_add' HDa.out.bel hR HDa.out.bel.size)).wld (worldOk_sz HW.out).rows.1 HW.out.many (fun x hx => ((worldOk_sz HW.out).li x 3 hx (by omega)).1))).mono ?_
     rintro e w' ⟨v', rfl, ho, hb⟩
     exact ⟨_, rfl, own_lst ho HAZ.out.1 HAZ.out.2, hb⟩
   ·clear hV hnf hi
    refine ⟨_, rfl, Or.inl ⟨by rfl, Or.inl ⟨.pointer (some ⟨w.heap.size + 1, 1, none⟩), wc, ?_, rfl, (Below.refl _ _)⟩⟩⟩
    (try simp only [putF, List.getD_cons_succ, List.getD_cons_zero, Go.Act.put, sTA, sCZ, sCS])
    go_simp
    try rfl
   ·have h2 : (vals 2) = .pointer (some ⟨w.heap.size + 1, 1, none⟩) := hV (2, 252) (by decide)
    clear hV hnf hi
    have qy1 := (hR.cell (p := ⟨w.heap.size + 1, 1, none⟩) hYl).trans y1
    refine ⟨_, rfl, Or.inl ⟨by rfl, Or.inl ⟨.string key, wc, ?_, rfl, (Below.refl _ _)⟩⟩⟩
    (try simp only [putF, List.getD_cons_succ, List.getD_cons_zero, Go.Act.put, sTA, sCZ, sCS, h2])
    go_simp
    try rfl
   ·have h1 : Lst wc wc.heap.size (vals 1) (allL W) := hV (1, 251) (by decide)
    have h3 : (vals 3) = .string key := hV (3, 253) (by decide)
    clear hV hnf hi
    refine ⟨_, rfl, Or.inl ⟨by rfl, Or.inr ⟨125, #[vals 1, .string key], ?_, ?_⟩⟩⟩
    ·(try simp only [putF, List.getD_cons_succ, List.getD_cons_zero, Go.Act.put, sTA, sCZ, sCS, h3])
     go_simp
     try rfl
    ·refine (at_any _ (allL W) key _ _ h1).mono ?_
     rw [HOA.out, atV_eq]
     rintro e w' ⟨rfl, rfl⟩
     exact ⟨_, rfl, rfl, Below.refl _ _⟩
   ·have h4 : (vals 4) = .tuple #[.string (o.getD ⟨#[]⟩), .bool o.isSome] := hV (4, 254) (by decide)
    clear hV hnf hi
    refine ⟨_, rfl, Or.inl ⟨by rfl, Or.inl ⟨.tuple #[.string (o.getD ⟨#[]⟩), .bool o.isSome], wc, ?_, rfl, (Below.refl _ _)⟩⟩⟩
    (try simp only [putF, List.getD_cons_succ, List.getD_cons_zero, Go.Act.put, sTA, sCZ, sCS, h4])
    go_simp
    try rfl
   ·have h5 : (vals 5) = .tuple #[.string (o.getD ⟨#[]⟩), .bool o.isSome] := hV (5, 249) (by decide)
    clear hV hnf hi
    refine ⟨_, rfl, Or.inl ⟨by rfl, Or.inl ⟨.string (o.getD ⟨#[]⟩), wc, ?_, rfl, (Below.refl _ _)⟩⟩⟩
    (try simp only [putF, List.getD_cons_succ, List.getD_cons_zero, Go.Act.put, sTA, sCZ, sCS, h5])
    go_simp
    try rfl
   ·exact absurd (by decide) hnf
   ·exact absurd hi (by simp)
  case n20of =>
   intro i hi vals wc hR hV
   obtain rfl := List.mem_singleton.1 hi
   ·have h5 : (vals 5) = .tuple #[.string (o.getD ⟨#[]⟩), .bool o.isSome] := hV (5, 249) (by decide)
    clear hV hi
    refine ⟨_, .bool o.isSome, rfl, by rfl, fun w' => ?_, rfl⟩
    (try simp only [putF, List.getD_cons_succ, List.getD_cons_zero, Go.Act.put, sTA, sCZ, sCS, h5])
    go_simp
    try rfl
  case' n20fi =>
   intro vals wf hR hV
   have hS := True.intro
   have f6 : (vals 6) = .string (o.getD ⟨#[]⟩) := hV 6 (by decide) (fun k hk => by simp at hk)
   have f7 : (vals 7) = .bool o.isSome := hV 7 (by decide) (fun k hk => by simp at hk)
   clear hV
   (try simp only [putF, List.getD_cons_succ, List.getD_cons_zero, Go.Act.put, sTA, sCZ, sCS, f6, f7])
   have HDf := jD (HDa.out.below hR)
   clear hR x0 x1 y0 y1 y2 z0 z1 z2 z3 z4 hXl hYl hZl
   refine wpAnyZ_one (i := 8) rfl rfl (by kernel_rfl) (fun K hK => ?_)
   (try simp only [gTA, gCZ, gCS])
   go_simp
   have hS2 := True.intro
   refine hK.out _ _ hS2 ?_
   clear hK K hS
   have hS := hS2
   clear hS2
   (try simp only [gTA, gCZ, gCS, Act.put, sTA, sCZ, sCS])
   refine wpAnyZ_last rfl rfl (by kernel_rfl) (by kernel_rfl) (fun K hK => ?_)
   (try simp only [gTA, gCZ, gCS])
   go_simp
   refine hK.out _ _ ?_
   clear hK K
   (try simp only [gTA, gCZ, gCS, Act.put, sTA, sCZ, sCS])
   rcases a4 with ⟨v, rfl⟩ | ⟨rfl, hl⟩
   case' inl =>
    obtain ⟨x0, x1⟩ := cells2 HDf.out.X
    obtain ⟨y0, y1, y2⟩ := cells3 HDf.out.Y
    obtain ⟨z0, z1, z2, z3, z4⟩ := cells5 HDf.out.Z
    have hXl := HDf.out.X.lt
    have hYl := HDf.out.Y.lt
    have hZl := HDf.out.Z.lt
    go_wp2_with fail
    obtain ⟨w9, HW9⟩ : ∃ u, Hid (wf = u) := ⟨_, jD rfl⟩
    have HD9 := HDf
    rw [HW9.out] at HD9 ⊢
    clear HW9 HDf
   case' inr =>
    obtain ⟨x0, x1⟩ := cells2 HDf.out.X
    obtain ⟨y0, y1, y2⟩ := cells3 HDf.out.Y
    obtain ⟨z0, z1, z2, z3, z4⟩ := cells5 HDf.out.Z
    have hXl := HDf.out.X.lt
    have hYl := HDf.out.Y.lt
    have hZl := HDf.out.Z.lt
    go_wp2_with fail
    refine (allRows_any _ _ W _ (HH.out.below HDf.out.bel).wld (worldOk_sz HW.out).rows.1 HW.out.many (fun x hx => ((worldOk_sz HW.out).li x 3 hx (by omega)).1)).mono ?_
    rintro e wb ⟨vb, rfl, ho, hbb⟩
    obtain ⟨Ab, mb, rfl⟩ := own_form ho
    have HDb := jD (HDf.out.below hbb)
    clear x0 x1 y0 y1 y2 z0 z1 z2 z3 z4 hXl hYl hZl
    obtain ⟨x0, x1⟩ := cells2 HDb.out.X
    obtain ⟨y0, y1, y2⟩ := cells3 HDb.out.Y
    obtain ⟨z0, z1, z2, z3, z4⟩ := cells5 HDb.out.Z
    have hXl := HDb.out.X.lt
    have hYl := HDb.out.Y.lt
    have hZl := HDb.out.Z.lt
    clear hbb ho
    have hlI : ((allL W).length : Int) < 100 := by omega
    go_wp2_with fail
    obtain ⟨w9, HW9⟩ : ∃ u, Hid (wb = u) := ⟨_, jD rfl⟩
    have HD9 := HDb
    rw [HW9.out] at HD9 ⊢
    clear HW9 HDb HDf hl hlI
   all_goals
    refine (plus_any _ W.rows key val _ (HH.out.rows.step HD9.out.bel)).mono ?_
    rintro e w6 ⟨v6, rfl, ho, hb6⟩
    obtain ⟨A6, m6, rfl⟩ := own_form ho
    have HD6 := jD (HD9.out.below hb6)
    have HO6 := jD (And.intro HD9.out.size ho)
    clear x0 x1 y0 y1 y2 z0 z1 z2 z3 z4 hXl hYl hZl
    obtain ⟨x0, x1⟩ := cells2 HD6.out.X
    obtain ⟨y0, y1, y2⟩ := cells3 HD6.out.Y
    obtain ⟨z0, z1, z2, z3, z4⟩ := cells5 HD6.out.Z
    have hXl := HD6.out.X.lt
    have hYl := HD6.out.Y.lt
    have hZl := HD6.out.Z.lt
    have hS6 := HH.out.blk.below HD6.out.bel hSw
    obtain ⟨s0, s1, s2, s3, s4, d0, d1, d2, d3, d4⟩ := any5 hS6 (o := i * 5) (by have := HH.out.len; have := HI.out.1; omega)
    obtain ⟨df0, df1, df2, df3, df4⟩ := frozen5 hS6 (i * 5)
    have hSz := hS6.lt
    obtain ⟨zf0, zf1, zf2, zf3, zf4⟩ := frozen5 HD6.out.Z 0
    simp only [Nat.zero_add] at zf1 zf2 zf3 zf4
    have xf0 := HD6.out.X.frozen 0
    clear hS6
    clear hb6 ho
    go_wp2
    clear d0 d1 d2 d3 d4 df0 df1 df2 df3 df4 x0 x1 y0 y1 y2 z0 z1 z2 z3 z4 hXl hYl hZl c0 c1 c2 c3 c4
    clear hSz zf0 zf1 zf2 zf3 zf4 xf0
    have HP := jD (HD6.out.put (wz := w6.setCell ⟨w.heap.size, 0, none⟩ (.slice A6 (plusL W.rows key val).length m6)) (s' := s) (rows' := plusL W.rows key val) (u1 := .slice A1 s.set.length n1) (u2 := .slice A2 s.prep.length n2) (u3 := .slice A3 s.sav.length n3) (u4 := .slice A4 s.wr.length n4) HH.out HQ.out HI.out.1 (rz := .slice A6 (plusL W.rows key val).length m6) (HD6.out.X.put (j := 0) (by simp) (.slice A6 (plusL W.rows key val).length m6)) (fun b h1 h2 => Below.heap_setCell _ _ _ _ h1) (by first | rfl | simp [World.setCell]) ⟨rfl, rfl, rfl⟩ (own_lst HO6.out.2 HPZ.out.1 HPZ.out.2) (HS.out.core.l1.step HD6.out.bel) (HS.out.core.l2.step HD6.out.bel) (HS.out.core.l3.step HD6.out.bel) (HS.out.core.l4.step HD6.out.bel) (newT HN.out hSw HO6.out.1 HO6.out.2) (oldT HQ.out HS.out.core.l1 HS.out.p1) (oldT HQ.out HS.out.core.l2 HS.out.p2) (oldT HQ.out HS.out.core.l3 HS.out.p3) (oldT HQ.out HS.out.core.l4 HS.out.p4))
    obtain ⟨W7, HW7⟩ : ∃ u, Hid (set5 (w6.setCell ⟨w.heap.size, 0, none⟩ (.slice A6 (plusL W.rows key val).length m6)) S (i * 5) (.int .i64 s.st) (.slice A1 s.set.length n1) (.slice A2 s.prep.length n2) (.slice A3 s.sav.length n3) (.slice A4 s.wr.length n4) = u) := ⟨_, jD rfl⟩
    have e7 := HW7.out
    rw [e7] at HP
    unfold set5 at e7
    rw [e7]
    obtain ⟨W8, h8⟩ : ∃ W8, (⟨plusL W.rows key val, W.ss.set i s⟩ : Wd) = W8 := ⟨_, rfl⟩
    rw [h8] at HP
    obtain ⟨D8, m8, d8, hr8⟩ : ∃ D8 m8 d8, (.slice A6 (plusL W.rows key val).length m6 : Value) = .slice D8 m8 d8 := ⟨_, _, _, rfl⟩
    rw [hr8] at HP
    have HE := jD HP.out.1
    have HO := jD HP.out.2
    clear HP e7 HW7 hr8
 case' c5 =>
  intro a1 a2
  subst a1
  have t0 : (s.st == 2) = false := beq_eq_false_iff_ne.2 (by omega)
  have t1 : (s.st == 0) = false := beq_eq_false_iff_ne.2 (by omega)
  have t2 : (s.st == 1) = true := beq_iff_eq.2 a2
  clear a2
  go_enter Tryz.func105, Tryz.ntmps105
  go_wp2
  have hn100 : s.wr.length ≤ 100 := (pairsB_rising hRE.out.1.wr).2.1
  have hwz : Hid (Sz60 s.wr) := jD (pairsB_sz (by omega) hRE.out.1.wr)
  go_loopw [11] (fun kv wr => ∃ j : Nat, j ≤ s.wr.length ∧ kv = .int .i64 j ∧ ZCom Q w wr S cap W s key val (.slice A1 s.set.length n1) (.slice A2 s.prep.length n2) (.slice A3 s.sav.length n3) (.slice A4 s.wr.length n4) j) (fun kv _ => s.wr.length - (intOf kv).toNat)
  case atStart =>
   rw [HW5.out]
   exact ⟨0, by omega, rfl, D, d, HD.out, HH.out.rows.step HD.out.bel, oldT HQ.out HH.out.rows HH.out.rin⟩
  case' round =>
   obtain ⟨j, hj, rfl, A, c, hA, hL, hI⟩ := hrel
   by_cases hlt : j < s.wr.length
   case pos =>
    have HS4 := HS.out.core.l4.step hA.bel
    obtain ⟨b, off, hA4, hb, e0, e1⟩ := HS4.pt hlt
    subst hA4
    obtain ⟨x0, _⟩ := cells2 hA.X
    obtain ⟨_, _, _, _, z4⟩ := cells5 hA.Z
    have HA := jD hA
    have HL := jD hL
    clear hA hL hI HS4
    have hjn : (j : Int) < (s.wr.length : Int) := by omega
    go_wp2_with fail
    go_still_tail 14, (by kernel_rfl)
    change wpList _ _ _ _ _ wr.drew
    have HA2 := jD (HA.out.below ((Below.refl wr.heap.size wr).drew))
    have HL2 := jD (HL.out.step ((Below.refl wr.heap.size wr).drew))
    clear HA HL x0 z4 e0 e1
    generalize wr.drew = w2 at *
    go_wp2_with fail
    refine (plus_any _ (plusF W.rows (s.wr.take j)) s.wr[j].1 s.wr[j].2 _ HL2.out).mono ?_
    rintro e w6 ⟨v6, rfl, ho, hy⟩
    obtain ⟨A6, c6, rfl⟩ := own_form ho
    have h6 := HA2.out.below hy
    obtain ⟨x0, _⟩ := cells2 h6.X
    have xf0 := h6.X.frozen 0
    have HO := jD ho
    have H6 := jD h6
    have HP := jD (zplusF_step (R := W.rows) hlt)
    clear ho h6 hy
    go_wp2
    go_roundw
    case rel =>
     refine ⟨j + 1, by omega, by go_num, A6, c6, ?_, ?_, ?_⟩
     ·rw [HP.out]
      have h6 := H6.out
      refine ⟨h6.X.put (j := 0) (by simp) _, h6.Y.other (by show w.heap.size ≠ _; omega) _, h6.R.other (by show w.heap.size ≠ _; omega) _, h6.A.other (by show w.heap.size ≠ _; omega) _, h6.Z.other (by show w.heap.size ≠ _; omega) _, h6.O.other (by show w.heap.size ≠ _; omega) _, h6.bel.setCell (nL _) _, by have := h6.size; simpa [World.setCell] using this⟩
     ·have hsz := zplusF_sizes (worldOk_sz HW.out).rows hwz.out (j + 1)
      have hsz' : (plusF W.rows (s.wr.take (j + 1))).length * 32 ≤ 140737488351232 ∧ ∀ p ∈ (plusF W.rows (s.wr.take (j + 1))), p.1.size ≤ 140737488351232 ∧ p.2.size ≤ 140737488351232 := hsz
      rw [HP.out] at hsz' ⊢
      exact (own_lst HO.out hsz'.1 hsz'.2).keepP (own_inP HO.out) (fun b hb => Below.heap_setCell _ _ _ _ (by show b ≠ w.heap.size; have := HA2.out.size; omega)) (fun b hb => by have := hb.2; simpa [World.setCell] using this)
     ·rw [HP.out]
      exact newT HN.out hSw HA2.out.size HO.out
    case measure => simp [intOf]; omega
   case' neg =>
    obtain rfl : j = s.wr.length := by omega
    rw [List.take_length] at hA hL hI
    obtain ⟨w6, HW6⟩ : ∃ u, Hid (wr = u) := ⟨_, jD rfl⟩
    rw [HW6.out] at hA hL ⊢
    have HD6 := jD hA
    have HL6 := jD (And.intro hL hI)
    clear hA hL hI HW6 hj hlt
    clear x0 x1 y0 y1 y2 z0 z1 z2 z3 z4 hXl hYl hZl
    obtain ⟨x0, x1⟩ := cells2 HD6.out.X
    obtain ⟨y0, y1, y2⟩ := cells3 HD6.out.Y
    obtain ⟨z0, z1, z2, z3, z4⟩ := cells5 HD6.out.Z
    have hXl := HD6.out.X.lt
    have hYl := HD6.out.Y.lt
    have hZl := HD6.out.Z.lt
    have hS6 := HH.out.blk.below HD6.out.bel hSw
    obtain ⟨s0, s1, s2, s3, s4, d0, d1, d2, d3, d4⟩ := any5 hS6 (o := i * 5) (by have := HH.out.len; have := HI.out.1; omega)
    obtain ⟨df0, df1, df2, df3, df4⟩ := frozen5 hS6 (i * 5)
    have hSz := hS6.lt
    obtain ⟨zf0, zf1, zf2, zf3, zf4⟩ := frozen5 HD6.out.Z 0
    simp only [Nat.zero_add] at zf1 zf2 zf3 zf4
    have xf0 := HD6.out.X.frozen 0
    clear hS6
    go_wp2
    clear d0 d1 d2 d3 d4 df0 df1 df2 df3 df4 x0 x1 y0 y1 y2 z0 z1 z2 z3 z4 hXl hYl hZl c0 c1 c2 c3 c4
    clear hSz zf0 zf1 zf2 zf3 zf4 xf0
    have HP := jD (HD6.out.put (wz := ((w6.setCell ⟨w.heap.size + 1 + 1 + 1 + 1, 0, none⟩ (.int .i64 0)).setCell ⟨w.heap.size + 1 + 1 + 1 + 1, 3, none⟩ (.slice none 0 0)).setCell ⟨w.heap.size + 1 + 1 + 1 + 1, 4, none⟩ (.slice none 0 0)) (s' := { s with st := 0, sav := [], wr := [] }) (rows' := (plusF W.rows s.wr)) (u1 := .slice A1 s.set.length n1) (u2 := .slice A2 s.prep.length n2) (u3 := .slice none 0 0) (u4 := .slice none 0 0) HH.out HQ.out HI.out.1 (rz := .slice A (plusF W.rows s.wr).length c) (((HD6.out.X.other (p := ⟨w.heap.size + 1 + 1 + 1 + 1, 0, none⟩) (by show w.heap.size + 1 + 1 + 1 + 1 ≠ w.heap.size; omega) _).other (p := ⟨w.heap.size + 1 + 1 + 1 + 1, 3, none⟩) (by show w.heap.size + 1 + 1 + 1 + 1 ≠ w.heap.size; omega) _).other (p := ⟨w.heap.size + 1 + 1 + 1 + 1, 4, none⟩) (by show w.heap.size + 1 + 1 + 1 + 1 ≠ w.heap.size; omega) _) (fun b h1 h2 => by rw [Below.heap_setCell _ _ _ _ h2, Below.heap_setCell _ _ _ _ h2, Below.heap_setCell _ _ _ _ h2]) (by first | rfl | simp [World.setCell]) ⟨rfl, rfl, rfl⟩ (HL6.out.1) (HS.out.core.l1.step HD6.out.bel) (HS.out.core.l2.step HD6.out.bel) (Lst.none_ _ _) (Lst.none_ _ _) (HL6.out.2) (oldT HQ.out HS.out.core.l1 HS.out.p1) (oldT HQ.out HS.out.core.l2 HS.out.p2) (InP.nil_ _ _) (InP.nil_ _ _))
    obtain ⟨W7, HW7⟩ : ∃ u, Hid (set5 (((w6.setCell ⟨w.heap.size + 1 + 1 + 1 + 1, 0, none⟩ (.int .i64 0)).setCell ⟨w.heap.size + 1 + 1 + 1 + 1, 3, none⟩ (.slice none 0 0)).setCell ⟨w.heap.size + 1 + 1 + 1 + 1, 4, none⟩ (.slice none 0 0)) S (i * 5) (.int .i64 0) (.slice A1 s.set.length n1) (.slice A2 s.prep.length n2) (.slice none 0 0) (.slice none 0 0) = u) := ⟨_, jD rfl⟩
    have e7 := HW7.out
    rw [e7] at HP
    unfold set5 at e7
    rw [e7]
    obtain ⟨W8, h8⟩ : ∃ W8, (⟨(plusF W.rows s.wr), W.ss.set i { s with st := 0, sav := [], wr := [] }⟩ : Wd) = W8 := ⟨_, rfl⟩
    rw [h8] at HP
    obtain ⟨D8, m8, d8, hr8⟩ : ∃ D8 m8 d8, (.slice A (plusF W.rows s.wr).length c : Value) = .slice D8 m8 d8 := ⟨_, _, _, rfl⟩
    rw [hr8] at HP
    have HE := jD HP.out.1
    have HO := jD HP.out.2
    clear HP e7 HW7 hr8
 case' c21 =>
  intro a1 a2 a3
  subst a1
  have t0 : (s.st == 2) = false := beq_eq_false_iff_ne.2 a2
  clear a2
  go_enter Tryz.func105, Tryz.ntmps105
  go_wp2_with fail
  rw [HW5.out]
  refine (at_any _ s.prep key _ _ (HS.out.core.l2.step HD.out.bel)).mono ?_
  rw [a3, atV_eq]
  rintro e w5 ⟨rfl, rfl⟩
  go_wp2_with fail
  have HE := jD (HD.out.atE HH.out)
  obtain ⟨e0, e1⟩ := cells2 HE.out.X
  have hel := HE.out.X.lt
  clear x0 x1 y0 y1 y2 z0 z1 z2 z3 z4 hXl hYl hZl c0 c1 c2 c3 c4
  refine wp_freeX 3 [(0, 171), (1, 172)] [[], []] [.agg #[.slice D W.rows.length d, .slice (some ⟨S, 0, none⟩) W.ss.length cap], .agg #[.int .i64 4, .string tNotPrep, .int .i64 0]] (fun _ w w' => Below w.heap.size w w') (fun wc => Below W5.heap.size W5 wc) 2 (by kernel_rfl) (by rfl) (by kernel_rfl) (fun _ _ _ _ _ h => h) (Below.refl _ _).drew (fun _ _ => Below.refl _ _) (fun k w w' h hb => bel_trans h hb) ?n21ob ?n21fi
  case n21ob =>
   intro i hi wc hR
   have e0' := (hR.cell (p := ⟨w.heap.size, 0, none⟩) hel).trans e0
   have e1' := (hR.cell (p := ⟨w.heap.size, 1, none⟩) hel).trans e1
   by_cases hk1 : i = 1
   ·subst hk1
    refine ⟨_, rfl, ?_, Or.inr ⟨123, #[.string tNotPrep], ?_, ?_⟩⟩
    ·((try simp only [putF, List.getD_cons_succ, List.getD_cons_zero, Go.Act.put, sTA, sCZ, sCS]); try rfl)
    ·((try simp only [putF, List.getD_cons_succ, List.getD_cons_zero, Go.Act.put, sTA, sCZ, sCS]); go_simp; try rfl)
    ·refine (no_any tNotPrep wc).mono ?_
     rintro e w' ⟨rfl, hb⟩
     exact ⟨rfl, hb⟩
   rcases i with _ | _ | i
   all_goals (first | contradiction | exact ⟨_, rfl, (by (try simp only [putF, List.getD_cons_succ, List.getD_cons_zero, Go.Act.put, sTA, sCZ, sCS]); try rfl), Or.inl (by (try simp only [putF, List.getD_cons_succ, List.getD_cons_zero, Go.Act.put, sTA, sCZ, sCS]); go_simp; try rfl)⟩ | exact absurd hi (by simp))
  case n21fi =>
   intro wf hR
   have hS := True.intro
   (try simp only [putF, List.getD_cons_succ, List.getD_cons_zero, Go.Act.put, sTA, sCZ, sCS])
   obtain ⟨r0, r1⟩ := cells2 (HE.out.below hR).R
   obtain ⟨b0, b1, b2⟩ := cells3 (HE.out.below hR).A
   obtain ⟨g0, g1, _⟩ := frozen5 (HE.out.below hR).R 0
   obtain ⟨k0, k1, k2, _⟩ := frozen5 (HE.out.below hR).A 0
   simp only [Nat.zero_add] at g1 k1 k2
   have HF := jD ((HE.out.below hR).fin (no' tNotPrep))
   clear hR e0 e1 hel
   refine wpAnyZ_one (i := 2) rfl rfl (by kernel_rfl) (fun K hK => ?_)
   (try simp only [gTA, gCZ, gCS])
   go_simp
   have hS2 := True.intro
   refine hK.out _ _ hS2 ?_
   clear hK K hS
   have hS := hS2
   clear hS2
   (try simp only [gTA, gCZ, gCS, Act.put, sTA, sCZ, sCS])
   refine wpAnyZ_last rfl rfl (by kernel_rfl) (by kernel_rfl) (fun K hK => ?_)
   (try simp only [gTA, gCZ, gCS])
   go_simp
   refine hK.out _ _ ?_
   clear hK K
   (try simp only [gTA, gCZ, gCS, Act.put, sTA, sCZ, sCS])
   go_wp2
   refine bodyPost_ret (v := .tuple #[.agg #[.slice D W.rows.length d, .slice (some ⟨S, 0, none⟩) W.ss.length cap], .agg #[.int .i64 4, .string tNotPrep, .int .i64 0]]) (by simp [results, Tryz.results105, go_sem, r0, r1, b0, b1, b2]) rfl ?_
   exact HF.out _ _ _ _ _
 case' c22 =>
  intro a1 a2 t a3
  subst a1
  have t0 : (s.st == 2) = false := beq_eq_false_iff_ne.2 a2
  clear a2
  have hps := prep_stmt hRE.out.1.prep a3
  have HT := jD ((of_all t.size t (nL _)).ok hps.1)
  have g := good_of hps.2.1
  have HC := jD (HREC.out rfl (kindN (cutA t)) (cutA (cutB t)) (cutB (cutB t)) (by omega) hps.2.1)
  obtain ⟨R, HR⟩ : ∃ R, Hid (did1 W i (kindN (cutA t)) (cutA (cutB t)) (cutB (cutB t)) = R) := ⟨_, jD rfl⟩
  rw [HR.out] at HC ⊢
  generalize (kindN (cutA t) : Int) = k2 at *
  generalize cutA (cutB t) = key2 at *
  generalize cutB (cutB t) = val2 at *
  clear hps g HR
  go_enter Tryz.func105, Tryz.ntmps105
  go_wp2_with fail
  rw [HW5.out]
  refine (at_any _ s.prep key _ _ (HS.out.core.l2.step HD.out.bel)).mono ?_
  rw [a3, atV_eq]
  rintro e w5 ⟨rfl, rfl⟩
  go_wp2_with fail
  refine (HT.out _).mono ?_
  rintro e w6 ⟨rfl, hy⟩
  have nb := (Below.refl w6.heap.size w6).alloc (nL _) (.cells #[.int .i64 k2, .string key2, .string val2] 41)
  have HD6 := jD ((HD.out.below hy).below nb)
  clear x0 x1 y0 y1 y2 z0 z1 z2 z3 z4 hXl hYl hZl
  obtain ⟨x0, x1⟩ := cells2 HD6.out.X
  obtain ⟨y0, y1, y2⟩ := cells3 HD6.out.Y
  obtain ⟨z0, z1, z2, z3, z4⟩ := cells5 HD6.out.Z
  have hXl := HD6.out.X.lt
  have hYl := HD6.out.Y.lt
  have hZl := HD6.out.Z.lt
  clear hy nb
  go_wp2_with fail
  unfold slc at HC
  refine (HC.out _ (HH.out.below HD6.out.bel) (fun b hb => HN.out b (Nat.le_trans HD6.out.bel.size hb))).mono ?_
  rintro e w8 ⟨r8, rfl, hr8, hon8⟩
  have R8 := HD6.out.R.same (hon8.1.2 _ HD6.out.R.lt (by omega))
  have A8 := HD6.out.A.same (hon8.1.2 _ HD6.out.A.lt (by omega))
  obtain ⟨D8, d8, rfl, _⟩ := hr8.rows.form
  obtain ⟨r0, r1⟩ := cells2 R8
  obtain ⟨b0, b1, b2⟩ := cells3 A8
  obtain ⟨g0, g1, _⟩ := frozen5 R8 0
  obtain ⟨k0, k1, k3, _⟩ := frozen5 A8 0
  simp only [Nat.zero_add] at g1 k1 k3
  have HF := jD (fin_z (n := W.ss.length) R8 A8 hr8 ((OnlyT.of HD6.out.bel).trans hon8) hSw)
  clear hr8 hon8 R8 A8
  clear x0 x1 y0 y1 y2 z0 z1 z2 z3 z4 hXl hYl hZl
  unfold slc ansV
  go_wp2
  refine bodyPost_ret (v := .tuple #[.agg #[.slice D8 R.1.rows.length d8, .slice (some ⟨S, 0, none⟩) W.ss.length cap], .agg #[.int .i64 R.2.kind, .string R.2.text, .int .i64 0]]) (by simp [results, Tryz.results105, go_sem, r0, r1, b0, b1, b2]) rfl ?_
  exact HF.out _ _ _ _ _
 all_goals
  obtain ⟨x0, x1⟩ := cells2 HE.out.X
  obtain ⟨o0, o1, o2⟩ := cells3 HO.out
  obtain ⟨r0, r1⟩ := cells2 HE.out.R
  obtain ⟨b0, b1, b2⟩ := cells3 HE.out.A
  obtain ⟨g0, g1, _⟩ := frozen5 HE.out.R 0
  obtain ⟨k0, k1, k2, _⟩ := frozen5 HE.out.A 0
  simp only [Nat.zero_add] at g1 k1 k2
  have HF := jD (HE.out.fin ok')
  have eX : w.heap.size + 1 + 1 ≠ w.heap.size := by omega
  have eO : w.heap.size + 1 + 1 ≠ w.heap.size + 1 + 1 + 1 + 1 + 1 := by omega
  refine wp_region_z 3 (fun wx => wx.cell? ⟨w.heap.size, 0, none⟩ = some (.slice D8 m8 d8) ∧ wx.cell? ⟨w.heap.size, 1, none⟩ = some (.slice (some ⟨S, 0, none⟩) W.ss.length cap) ∧ wx.cell? ⟨w.heap.size + 1 + 1 + 1 + 1 + 1, 0, none⟩ = some (.int .i64 1) ∧ wx.cell? ⟨w.heap.size + 1 + 1 + 1 + 1 + 1, 1, none⟩ = some (.string ⟨#[]⟩) ∧ wx.cell? ⟨w.heap.size + 1 + 1 + 1 + 1 + 1, 2, none⟩ = some (.int .i64 0)) (by kernel_rfl) (show W7.drew.cell? ⟨w.heap.size, 0, none⟩ = some (.slice D8 m8 d8) ∧ W7.drew.cell? ⟨w.heap.size, 1, none⟩ = some (.slice (some ⟨S, 0, none⟩) W.ss.length cap) ∧ W7.drew.cell? ⟨w.heap.size + 1 + 1 + 1 + 1 + 1, 0, none⟩ = some (.int .i64 1) ∧ W7.drew.cell? ⟨w.heap.size + 1 + 1 + 1 + 1 + 1, 1, none⟩ = some (.string ⟨#[]⟩) ∧ W7.drew.cell? ⟨w.heap.size + 1 + 1 + 1 + 1 + 1, 2, none⟩ = some (.int .i64 0) from ⟨x0, x1, o0, o1, o2⟩) (fun hS => ?_)
  refine wpAnyZ_take (i := 0) (v := ?_) rfl (by kernel_rfl) (by kernel_rfl) (by kernel_rfl) (by kernel_rfl) (fun _ _ _ h => h) (Or.inl ⟨by rfl, ?_⟩) hS ?_
  rotate_left
  ·(intro w hSw; (try dsimp only at hSw); (try simp only [gTA, gCZ, gCS]); go_simp; try with_reducible rfl)
  (try simp only [gTA, gCZ, gCS, Act.put, sTA, sCZ, sCS])
  refine wpAnyZ_take (i := 1) (v := ?_) rfl (by kernel_rfl) (by kernel_rfl) (by kernel_rfl) (by kernel_rfl) (fun _ _ _ h => h) (Or.inl ⟨by rfl, ?_⟩) hS ?_
  rotate_left
  ·(intro w hSw; (try dsimp only at hSw); (try simp only [gTA, gCZ, gCS]); go_simp; try with_reducible rfl)
  (try simp only [gTA, gCZ, gCS, Act.put, sTA, sCZ, sCS])
  refine wpAnyZ_one (i := 2) rfl rfl (by kernel_rfl) (fun K hK => ?_)
  (try simp only [gTA, gCZ, gCS])
  go_simp
  have hS2 := (show ((W7.drew.setCell ⟨w.heap.size + 1 + 1, 0, none⟩ (.slice D8 m8 d8)).setCell ⟨w.heap.size + 1 + 1, 1, none⟩ (.slice (some ⟨S, 0, none⟩) W.ss.length cap)).cell? ⟨w.heap.size, 0, none⟩ = some (.slice D8 m8 d8) ∧ ((W7.drew.setCell ⟨w.heap.size + 1 + 1, 0, none⟩ (.slice D8 m8 d8)).setCell ⟨w.heap.size + 1 + 1, 1, none⟩ (.slice (some ⟨S, 0, none⟩) W.ss.length cap)).cell? ⟨w.heap.size, 1, none⟩ = some (.slice (some ⟨S, 0, none⟩) W.ss.length cap) ∧ ((W7.drew.setCell ⟨w.heap.size + 1 + 1, 0, none⟩ (.slice D8 m8 d8)).setCell ⟨w.heap.size + 1 + 1, 1, none⟩ (.slice (some ⟨S, 0, none⟩) W.ss.length cap)).cell? ⟨w.heap.size + 1 + 1 + 1 + 1 + 1, 0, none⟩ = some (.int .i64 1) ∧ ((W7.drew.setCell ⟨w.heap.size + 1 + 1, 0, none⟩ (.slice D8 m8 d8)).setCell ⟨w.heap.size + 1 + 1, 1, none⟩ (.slice (some ⟨S, 0, none⟩) W.ss.length cap)).cell? ⟨w.heap.size + 1 + 1 + 1 + 1 + 1, 1, none⟩ = some (.string ⟨#[]⟩) ∧ ((W7.drew.setCell ⟨w.heap.size + 1 + 1, 0, none⟩ (.slice D8 m8 d8)).setCell ⟨w.heap.size + 1 + 1, 1, none⟩ (.slice (some ⟨S, 0, none⟩) W.ss.length cap)).cell? ⟨w.heap.size + 1 + 1 + 1 + 1 + 1, 2, none⟩ = some (.int .i64 0) from ⟨cell_sty (p := ⟨w.heap.size + 1 + 1, 1, none⟩) eX (cell_sty (p := ⟨w.heap.size + 1 + 1, 0, none⟩) eX x0), cell_sty (p := ⟨w.heap.size + 1 + 1, 1, none⟩) eX (cell_sty (p := ⟨w.heap.size + 1 + 1, 0, none⟩) eX x1), cell_sty (p := ⟨w.heap.size + 1 + 1, 1, none⟩) eO (cell_sty (p := ⟨w.heap.size + 1 + 1, 0, none⟩) eO o0), cell_sty (p := ⟨w.heap.size + 1 + 1, 1, none⟩) eO (cell_sty (p := ⟨w.heap.size + 1 + 1, 0, none⟩) eO o1), cell_sty (p := ⟨w.heap.size + 1 + 1, 1, none⟩) eO (cell_sty (p := ⟨w.heap.size + 1 + 1, 0, none⟩) eO o2)⟩)
  refine hK.out _ _ hS2 ?_
  clear hK K hS
  have hS := hS2
  clear hS2
  (try simp only [gTA, gCZ, gCS, Act.put, sTA, sCZ, sCS])
  refine wpAnyZ_last rfl rfl (by kernel_rfl) (by kernel_rfl) (fun K hK => ?_)
  (try simp only [gTA, gCZ, gCS])
  go_simp
  refine hK.out _ _ ?_
  clear hK K
  (try simp only [gTA, gCZ, gCS, Act.put, sTA, sCZ, sCS])
  go_wp2
  refine bodyPost_ret (v := .tuple #[.agg #[.slice D8 m8 d8, .slice (some ⟨S, 0, none⟩) W.ss.length cap], .agg #[.int .i64 1, .string ⟨#[]⟩, .int .i64 0]]) (by simp [results, Tryz.results105, go_sem, r0, r1, b0, b1, b2]) rfl ?_
  subst h8
  exact (HF.out _ _ _ _ _).drew
theorem didz_any {Q : Nat → Prop} (S cap : Nat) (r : Value) (W : Wd) (i : Nat) (k : Int) (key val : ByteArray) (w : World) (h : RefP Q w S cap r W) (hw : WorldOk W) (hQ : ∀ b, Q b → b ≠ S) (hN : ∀ b, w.heap.size ≤ b → Q b) (hi : i < W.ss.length) (hg : checkE k key val = 0) :
  Calls Tryz.prog 105 #[.agg #[r, slc S W.ss.length cap], .int .i64 i, .agg #[.int .i64 k, .string key, .string val]] w (DidZ Q w S cap W.ss.length (didM W i k key val)) := by
 have g := good_of hg
 refine didz_gen S cap r W i k key val w h hw hQ hN hi g.key8 g.v60 g.lo g.hi (fun _ k2 key2 val2 h8 hg2 w9 h9 hN9 => ?_)
 have g2 := good_of hg2
 have := didz_gen S cap r W i k2 key2 val2 w9 h9 hw hQ hN9 hi g2.key8 g2.v60 g2.lo g2.hi (fun e => absurd e h8)
 rwa [show didM W i k2 key2 val2 = did1 W i k2 key2 val2 by unfold didM; rw [if_neg h8]] at this
end Go.Proofs.YtpbaobmegomfpabGreatDoor
