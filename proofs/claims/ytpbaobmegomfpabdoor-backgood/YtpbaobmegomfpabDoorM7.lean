/-
  Texts of the proof, one behind the other: GridD, OrdersG, WBackGood.
-/
import Derived.Test.YtpbaobmegomfpabDoorM6
import Derived.Test.YtpbaobmegomfpabDoorM4
/-
  Regions that call back.Do (and perhaps make its statement first) beside two new variables: what holds behind each call.
-/
namespace Go.Proofs.YtpbaobmegomfpabDoor
open Go.RowKit
set_option linter.unusedVariables false

/-- a frame with the first c results -/
def putsN (A0 : Go.Act) (vs : Nat → Nat × Value) : Nat → Go.Act
  | 0 => A0
  | c + 1 => (putsN A0 vs c).put (some (vs c).1) (vs c).2
/-- what holds behind call c; behind the last one: what it gives -/
def DJ (wr : World) (C : Nat) (vs : Nat → Nat × Value) (dl : Nat) (res : Value → Value → Value) (Post : Value → Value → World → Prop) (A0 : Go.Act) (c : Nat) (f : Go.Act) (wc : World) : Prop :=
  Below wr.heap.size wr wc ∧ (c ≤ C → f = putsN A0 vs c) ∧ (C < c → ∃ r2 s2, f = (putsN A0 vs C).put (some dl) (res r2 s2) ∧ Post r2 s2 wc)
def DJ' (wr : World) (F : Go.Act → Value → Value → Go.Act) (Post : Value → Value → World → Prop) (A0 : Go.Act) (f : Go.Act) (wc : World) : Prop :=
  Below wr.heap.size wr wc ∧ ∃ r2 s2, f = F A0 r2 s2 ∧ Post r2 s2 wc
section
variable {wr : World} {C : Nat} {vs : Nat → Nat × Value} {dl : Nat} {res : Value → Value → Value} {Post : Value → Value → World → Prop} {F : Go.Act → Value → Value → Go.Act} {A0 : Go.Act}
theorem dj_alloc (hP : ∀ r s w o, Post r s w → Post r s (w.alloc o)) (c : Nat) (f : Go.Act) (w : World) (o : Obj) (h : DJ wr C vs dl res Post A0 c f w) : DJ wr C vs dl res Post A0 c f (w.alloc o) :=
  ⟨h.1.alloc h.1.size o, h.2.1, fun hc => by obtain ⟨r2, s2, h1, h2⟩ := h.2.2 hc; exact ⟨r2, s2, h1, hP _ _ _ _ h2⟩⟩
theorem dj'_alloc (hP : ∀ r s w o, Post r s w → Post r s (w.alloc o)) (f : Go.Act) (w : World) (o : Obj) (h : DJ' wr F Post A0 f w) : DJ' wr F Post A0 f (w.alloc o) := by
  obtain ⟨h0, r2, s2, h1, h2⟩ := h
  exact ⟨h0.alloc h0.size o, r2, s2, h1, hP _ _ _ _ h2⟩
end
theorem wldP_alloc {P : Nat → Prop} {V : Wd} (r s : Value) (w : World) (o : Obj) (h : WldP w P r s V) : WldP (w.alloc o) P r s V := h.below ((Below.refl w.heap.size w).alloc (Nat.le_refl _) o)
end Go.Proofs.YtpbaobmegomfpabDoor

/-
  A region that draws its order: an operation with a guard, alone to come up.
-/
namespace Go.Proofs.YtpbaobmegomfpabDoor
open Go
set_option linter.unusedVariables false

section
variable {P : Program} {ops : Array Oper} {Q : Exit → Go.Act → World → Prop} {md : Region.Mode} {S : World → Prop} {z : Nat}
/-- number i alone may come up, and is wanted -/
theorem wpAnyZ_oneG {i : Nat} {o : Oper} {fuel : Nat} {listed : Array Bool} {a : Go.Act} {w : World} (ho : ops[i]? = some o) (hg : Region.wanted o (yielded ops a.tmps) = true) (hr : Region.ready md ops listed = [i])
    (h : ∀ K' : Go.Act → World → Prop, Shut (∀ a w, S w → wpAnyZ P md ops Q S z fuel (listed.setIfInBounds i true) a w → K' a w) → Oper.wp P o a w K' Q) : wpAnyZ P md ops Q S z (fuel + 1) listed a w := by
  refine ⟨fun h0 => (by rw [hr] at h0; cases h0), fun j hj => ?_⟩
  rw [hr] at hj
  obtain rfl := List.mem_singleton.1 hj
  refine wpOp_step ho fun K' hK => ?_
  rw [if_pos hg]
  exact h K' (fun a w hS hW => hK a w ⟨fun _ => hS, hW⟩)
end
end Go.Proofs.YtpbaobmegomfpabDoor

/-
  The walk of the law BackGood.
-/
namespace Go.Proofs.YtpbaobmegomfpabDoor
open Go.RowKit
set_option linter.unusedVariables false
set_option linter.unusedSimpArgs false
set_option maxRecDepth 100000

theorem backGood.laidFacts {W : World} (h : laidMetH Tryd.prog Rows.backGoodRow.laid W) : Words W := words_of h (by simp [Rows.backGoodRow, Rows.laid_tillerman_say_words, List.range, List.range.loop, wordL])
set_option maxHeartbeats 8000000 in
theorem walk_BackGood (v : Value) (l : List Raw) (kd a b c : Int) (w : World) (hl : RLst w w.heap.size v l) (hk : (Lit.int .i64 kd).wf = true) (ha : (Lit.int .i64 a).wf = true) (hb : (Lit.int .i64 b).wf = true) (hc : (Lit.int .i64 c).wf = true) (hWo : Words w) :
    Calls Tryd.prog 4 #[v, .agg #[.int .i64 kd, .int .i64 a, .int .i64 b, .int .i64 c]] w fun e w' => e = .returned (.bool true) ∧ Below w.heap.size w w' := by
  have HL := Lib.hid hl
  have HWo := Lib.hid hWo
  have hcb := i64_bd hc
  have hokk := play_ok (n := 4) (by omega) (l := l.take 60) (W := zeroW 4) (zeros_ok (by omega)) (by simp [zeroW])
  have HPL := Lib.hid (fun wc (h1 : RLst wc wc.heap.size v l) h2 => played_any v l 4 60 wc h1 h2 (by omega) (by omega) (by omega))
  have hpk := pickI_bd c (m := 4) (by omega)
  obtain ⟨i, hi⟩ : ∃ i : Nat, pickI c 4 = i := ⟨(pickI c 4).toNat, by omega⟩
  have hi4 : i < 4 := by omega
  have HP := Lib.hid (fun wc => picked_any c 4 wc hcb.1 hcb.2 (by omega) (by omega))
  have HT := Lib.hid (fun wc => stmt_any kd a b c wc hk ha hb hc)
  have hG := reqR_ok ⟨kd, a, b, c⟩
  rw [hi] at HP
  obtain ⟨q, hq⟩ : ∃ q, reqR ⟨kd, a, b, c⟩ = q := ⟨_, rfl⟩
  have HT2 : Hid (∀ wc : World, Calls Tryd.prog 15 #[.agg #[.int .i64 kd, .int .i64 a, .int .i64 b, .int .i64 c]] wc fun e w' => e = .returned (.agg #[.int .i64 q.k, .string q.key, .string q.val]) ∧ Below wc.heap.size wc w') := Lib.hid fun wc => by rw [← hq]; exact HT.out wc
  rw [hq] at hG
  generalize hW : playM 4 (zeroW 4) (l.take 60) = W at *
  have hiW : i < W.ss.length := by rw [hokk.2]; exact hi4
  have hV := doR_ok hokk.1 hiW hG
  have hgd := good_of hG
  have HBAD : Hid (∀ (r s : Value) (wc : World), Wld wc wc.heap.size r s W → Words wc → Calls Tryd.prog 10 #[.agg #[r, s], .int .i64 4, .agg #[.int .i64 q.k, .string q.key, .string q.val]] wc fun e w' => e = .returned (doBad 6) ∧ Below wc.heap.size wc w') := Lib.hid fun r s wc h1 h2 => by
    have e6 : doE W 4 q.k q.key q.val = 6 := by
      unfold doE
      rw [if_neg (by rw [worldB_iff.2 hokk.1]; simp), if_pos (.inr (by rw [hokk.2]; decide))]
    have := do_no r s W 4 q.k q.key q.val wc h1 h2 (by have := hgd.key8; unfold maxLen; omega) (by have := hgd.v60; unfold maxLen; omega) (by rw [e6]; decide)
    rw [e6] at this
    exact this
  have HDO := Lib.hid (fun (r s : Value) (wc : World) (h1 : Wld wc wc.heap.size r s W) (h2 : Words wc) => do_new r s W i q.k q.key q.val wc h1 h2 hokk.1 hiW hG)
  obtain ⟨R, hR⟩ : ∃ R, doR W i q = R := ⟨_, rfl⟩
  have hR' : doM W i q.k q.key q.val = R := hR
  rw [hR'] at HDO
  rw [hR] at hV
  obtain ⟨st, HST⟩ : ∃ st, Hid ((R.1.at i).st = st) := ⟨_, Lib.hid rfl⟩
  rw [HST.out] at HDO
  have hlen : R.1.ss.length = 4 := hV.2.trans hokk.2
  have HLW := Lib.hid hokk.2
  have HLV := Lib.hid hlen
  have HCW := Lib.hid hokk.1
  have HCV := Lib.hid hV.1
  obtain ⟨x, HX⟩ : ∃ x : Raw, Hid (x = ⟨kd, a, b, c⟩) := ⟨_, Lib.hid rfl⟩
  clear hl hWo hk ha hb hc hcb hokk hpk HT hG hV hR hR' hq hW hi hiW hlen hgd
  go_enter Tryd.func4, Tryd.ntmps4
  go_wp2_with fail
  have al := (Below.refl w.heap.size w).alloc (Nat.le_refl _) (.cells #[.int .i64 kd, .int .i64 a, .int .i64 b, .int .i64 c] 38)
  refine (HPL.out _ (HL.out.step al) (HWo.out.below al)).mono ?_
  rintro e w1 ⟨r, s, o, rfl, hw1, hb1⟩
  obtain ⟨A1, c1', rfl, _⟩ := hw1.sess.form
  obtain ⟨D1, d1, rfl, _⟩ := hw1.rows.form
  have hz1 := hb1.size
  simp only [World.size_alloc] at hz1
  have n1 := (Below.refl w1.heap.size w1).alloc (Nat.le_refl _) (.cells #[.slice D1 W.rows.length d1, .slice A1 W.ss.length c1'] 25)
  have X0 := RowTo.whole w #[.int .i64 kd, .int .i64 a, .int .i64 b, .int .i64 c] 38
  have X1 := (X0.below hb1 X0.lt).below n1 (X0.below hb1 X0.lt).lt
  have HB1 := Lib.hid (bel_add' (bel_add' al hb1 al.size) n1 (bel_add' al hb1 al.size).size)
  have HW1 := Lib.hid (hw1.step n1)
  have HA1 := Lib.hid (RowTo.whole w1 #[.slice D1 W.rows.length d1, .slice A1 W.ss.length c1'] 25)
  have HX1' := Lib.hid X1
  have x0 := X1.cell (j := 0) (by simp)
  have x1 := X1.cell (j := 1) (by simp)
  have x2 := X1.cell (j := 2) (by simp)
  have x3 := X1.cell (j := 3) (by simp)
  simp only [List.getElem_cons_zero, List.getElem_cons_succ] at x0 x1 x2 x3
  have hXl := X1.lt
  have hAl := HA1.out.lt
  obtain ⟨a0, a1⟩ := cells2 HA1.out
  clear hw1 hb1 n1 X0 X1 al HPL
  go_wp2_with fail
  refine (HP.out _).mono ?_
  rintro e w' ⟨rfl, rfl⟩
  generalize hwr : w1.alloc (.cells #[.slice D1 W.rows.length d1, .slice A1 W.ss.length c1'] 25) = wr at *
  have hsz : wr.heap.size = w1.heap.size + 1 := by rw [← hwr]; simp
  clear hwr
  go_wp2_with fail
  refine wp_region_z 13 (fun wx => wx.cell? ⟨w1.heap.size, 0, none⟩ = some (.slice D1 W.rows.length d1) ∧ wx.cell? ⟨w1.heap.size, 1, none⟩ = some (.slice A1 W.ss.length c1') ∧ wx.cell? ⟨w.heap.size, 0, none⟩ = some (.int .i64 kd) ∧ wx.cell? ⟨w.heap.size, 1, none⟩ = some (.int .i64 a) ∧ wx.cell? ⟨w.heap.size, 2, none⟩ = some (.int .i64 b) ∧ wx.cell? ⟨w.heap.size, 3, none⟩ = some (.int .i64 c)) (by kernel_rfl) (show wr.drew.cell? ⟨w1.heap.size, 0, none⟩ = some (.slice D1 W.rows.length d1) ∧ wr.drew.cell? ⟨w1.heap.size, 1, none⟩ = some (.slice A1 W.ss.length c1') ∧ wr.drew.cell? ⟨w.heap.size, 0, none⟩ = some (.int .i64 kd) ∧ wr.drew.cell? ⟨w.heap.size, 1, none⟩ = some (.int .i64 a) ∧ wr.drew.cell? ⟨w.heap.size, 2, none⟩ = some (.int .i64 b) ∧ wr.drew.cell? ⟨w.heap.size, 3, none⟩ = some (.int .i64 c) from ⟨a0, a1, x0, x1, x2, x3⟩) (fun hS => ?_)
  refine wpAnyZ_take (i := 0) (v := ?v0) rfl (by kernel_rfl) (by kernel_rfl) (by kernel_rfl) (by kernel_rfl) (fun _ _ _ h => h) (Or.inl ⟨by rfl, ?y0⟩) hS ?r0
  case y0 => (intro w hSw; (try dsimp only at hSw); (try simp only [List.getElem_toArray, List.getElem_cons_zero, List.getElem_cons_succ]); go_simp; try with_reducible rfl)
  (try simp only [List.getElem_toArray, List.getElem_cons_zero, List.getElem_cons_succ, Act.put, List.setIfInBounds_toArray, List.set_cons_zero, List.set_cons_succ])
  refine wpAnyZ_take (i := 1) (v := ?v1) rfl (by kernel_rfl) (by kernel_rfl) (by kernel_rfl) (by kernel_rfl) (fun _ _ _ h => h) (Or.inl ⟨by rfl, ?y1⟩) hS ?r1
  case y1 => (intro w hSw; (try dsimp only at hSw); (try simp only [List.getElem_toArray, List.getElem_cons_zero, List.getElem_cons_succ]); go_simp; try with_reducible rfl)
  (try simp only [List.getElem_toArray, List.getElem_cons_zero, List.getElem_cons_succ, Act.put, List.setIfInBounds_toArray, List.set_cons_zero, List.set_cons_succ])
  refine wpAnyZ_take (i := 2) (v := ?v2) rfl (by kernel_rfl) (by kernel_rfl) (by kernel_rfl) (by kernel_rfl) (fun _ _ _ h => h) (Or.inl ⟨by rfl, ?y2⟩) hS ?r2
  case y2 => (intro w hSw; (try dsimp only at hSw); (try simp only [List.getElem_toArray, List.getElem_cons_zero, List.getElem_cons_succ]); go_simp; try with_reducible rfl)
  (try simp only [List.getElem_toArray, List.getElem_cons_zero, List.getElem_cons_succ, Act.put, List.setIfInBounds_toArray, List.set_cons_zero, List.set_cons_succ])
  refine grid0 (C := 2) (cop := fun c => if c = 0 then 3 else 4) (dst := fun c => if c = 0 then 28 else 29) (p := 9) (q := 10) (dp := 9) (dq := 10) (tp := 25) (tq := 30) (zp := #[.slice none 0 0, .slice none 0 0]) (zq := #[.int .i64 0, .string ⟨#[]⟩, .int .i64 0])
    (Lst := fun c x y => #[true, true, true, decide (0 < c), decide (1 < c), false, false, false, false, x, y, false, false, false]) (Lst' := fun x y => #[true, true, true, true, true, true, true, true, true, x, y, false, false, false]) ?gG (DJ wr 1 (fun _ => (28, .agg #[.int .i64 q.k, .string q.key, .string q.val])) 29 (fun r2 s2 => doGood r2 s2 R.2 st) (fun r2 s2 wc => WldP wc (fun b => wr.heap.size ≤ b) r2 s2 R.1)) (DJ' wr (fun A0 r2 s2 => (((((putsN A0 (fun _ => (28, .agg #[.int .i64 q.k, .string q.key, .string q.val])) 1).put (some 29) (doGood r2 s2 R.2 st)).put (some 24) (doGood r2 s2 R.2 st)).put (some 30) (.agg #[r2, s2])).put (some 31) (.agg #[.int .i64 R.2.kind, .string R.2.text, .int .i64 st])).put (some 32) (.int .i64 0)) (fun r2 s2 wc => WldP wc (fun b => wr.heap.size ≤ b) r2 s2 R.1)) 3 4 wr.heap.size (dj_alloc (fun r s w o h => wldP_alloc r s w o h)) (dj'_alloc (fun r s w o h => wldP_alloc r s w o h)) ?g3 ?g4 (fun c a w h => h.1.size) (fun a w h => h.1.size) ?g5 ?g6 ?g7 ⟨(Below.refl _ _).drew, fun _ => rfl, fun h => absurd h (by omega)⟩
  case gG =>
    refine ⟨⟨_, rfl, rfl, rfl, fun ev w => (by go_simp; rfl)⟩, ⟨_, rfl, rfl, rfl, fun ev w => (by go_simp; rfl)⟩, (by decide), fun c h => (by (repeat' split) <;> decide), fun c x y h => ?_, fun x y h => (match x, y, h with | false, false, _ => (by kernel_rfl) | false, true, _ => (by kernel_rfl) | true, false, _ => (by kernel_rfl) | true, true, h => (by cases h)), fun c x y h => ?_, fun c y h => rfl, fun c x h => rfl, fun y => rfl, fun x => rfl⟩
    · match c, h with
      | 0, _ => cases x <;> cases y <;> (show _ = _; kernel_rfl)
      | 1, _ => cases x <;> cases y <;> (show _ = _; kernel_rfl)
    · match c, h with
      | 0, _ => rfl
      | 1, _ => rfl
  case g3 => exact fun c a wc h => ⟨(h.1.cell (p := ⟨w1.heap.size, 0, none⟩) hAl).trans a0, (h.1.cell (p := ⟨w1.heap.size, 1, none⟩) hAl).trans a1, (h.1.cell (p := ⟨w.heap.size, 0, none⟩) hXl).trans x0, (h.1.cell (p := ⟨w.heap.size, 1, none⟩) hXl).trans x1, (h.1.cell (p := ⟨w.heap.size, 2, none⟩) hXl).trans x2, (h.1.cell (p := ⟨w.heap.size, 3, none⟩) hXl).trans x3⟩
  case g4 => exact fun a wc h => ⟨(h.1.cell (p := ⟨w1.heap.size, 0, none⟩) hAl).trans a0, (h.1.cell (p := ⟨w1.heap.size, 1, none⟩) hAl).trans a1, (h.1.cell (p := ⟨w.heap.size, 0, none⟩) hXl).trans x0, (h.1.cell (p := ⟨w.heap.size, 1, none⟩) hXl).trans x1, (h.1.cell (p := ⟨w.heap.size, 2, none⟩) hXl).trans x2, (h.1.cell (p := ⟨w.heap.size, 3, none⟩) hXl).trans x3⟩
  case g5 =>
    intro c0 a wc x' y hc0 hj hx hy
    match c0, hc0, hj with
    | 0, _, hj =>
      obtain ⟨hb, hf, _⟩ := hj
      obtain rfl := hf (by omega)
      refine wpOp_wp rfl rfl (wp_call (g := 15) (args := #[.agg #[.int .i64 kd, .int .i64 a, .int .i64 b, .int .i64 c]]) ?_ ?_)
      · cases x' <;> cases y <;> (simp only [fr, pt, doGood, doBad, putsN, Act.put, List.setIfInBounds_toArray, List.set_cons_zero, List.set_cons_succ]; go_simp; try rfl)
      · refine (HT2.out wc).mono ?_
        rintro e w3 ⟨rfl, hb3⟩
        exact ⟨_, rfl, _, rfl, ⟨bel_add' hb hb3 hb.size, fun _ => rfl, fun h => absurd h (by omega)⟩, zs_below hx hb3, zs_below hy hb3⟩
    | 1, _, hj =>
      obtain ⟨hb, hf, _⟩ := hj
      obtain rfl := hf (by omega)
      refine wpOp_wp rfl rfl (wp_call (g := 10) (args := #[.agg #[.slice D1 W.rows.length d1, .slice A1 W.ss.length c1'], .int .i64 i, .agg #[.int .i64 q.k, .string q.key, .string q.val]]) ?_ ?_)
      · cases x' <;> cases y <;> (simp only [fr, pt, doGood, doBad, putsN, Act.put, List.setIfInBounds_toArray, List.set_cons_zero, List.set_cons_succ]; go_simp; try rfl)
      · refine (HDO.out _ _ wc (HW1.out.step hb) (HWo.out.below (bel_add' HB1.out hb HB1.out.size))).mono ?_
        rintro e w3 ⟨r2, s2, rfl, hw3, hb3⟩
        exact ⟨_, rfl, _, rfl, ⟨bel_add' hb hb3 hb.size, fun h => absurd h (by omega), fun _ => ⟨r2, s2, rfl, hw3.mono (fun b hq => Nat.le_trans hb.size hq)⟩⟩, zs_below hx hb3, zs_below hy hb3⟩
  case g6 =>
    intro a wc x' y n' hj hx hy hk'
    obtain ⟨hb, _, hj⟩ := hj
    obtain ⟨r2, s2, rfl, hw3⟩ := hj (by omega)
    have hS : wc.cell? ⟨w1.heap.size, 0, none⟩ = some (.slice D1 W.rows.length d1) ∧ wc.cell? ⟨w1.heap.size, 1, none⟩ = some (.slice A1 W.ss.length c1') ∧ wc.cell? ⟨w.heap.size, 0, none⟩ = some (.int .i64 kd) ∧ wc.cell? ⟨w.heap.size, 1, none⟩ = some (.int .i64 a) ∧ wc.cell? ⟨w.heap.size, 2, none⟩ = some (.int .i64 b) ∧ wc.cell? ⟨w.heap.size, 3, none⟩ = some (.int .i64 c) := ⟨(hb.cell (p := ⟨w1.heap.size, 0, none⟩) hAl).trans a0, (hb.cell (p := ⟨w1.heap.size, 1, none⟩) hAl).trans a1, (hb.cell (p := ⟨w.heap.size, 0, none⟩) hXl).trans x0, (hb.cell (p := ⟨w.heap.size, 1, none⟩) hXl).trans x1, (hb.cell (p := ⟨w.heap.size, 2, none⟩) hXl).trans x2, (hb.cell (p := ⟨w.heap.size, 3, none⟩) hXl).trans x3⟩
    have hk' := hk' _ ⟨hb, r2, s2, rfl, hw3⟩
    clear hx hy hw3
    cases x' <;> cases y
    all_goals
      simp only [fr, pt, doGood, doBad, putsN, Act.put, List.setIfInBounds_toArray, List.set_cons_zero, List.set_cons_succ]
      simp only [fr, pt, doGood, doBad, putsN, Act.put, List.setIfInBounds_toArray, List.set_cons_zero, List.set_cons_succ] at hk'
      refine wpAnyZ_take (i := 5) (v := ?_) rfl (by kernel_rfl) (by kernel_rfl) (by kernel_rfl) (by kernel_rfl) (fun _ _ _ h => h) (Or.inl ⟨by rfl, ?_⟩) hS ?_
      rotate_left
      · (intro w hSw; (try dsimp only at hSw); (try simp only [List.getElem_toArray, List.getElem_cons_zero, List.getElem_cons_succ]); go_simp; try with_reducible rfl)
      (try simp only [List.getElem_toArray, List.getElem_cons_zero, List.getElem_cons_succ, Act.put, List.setIfInBounds_toArray, List.set_cons_zero, List.set_cons_succ])
      refine wpAnyZ_take (i := 6) (v := ?_) rfl (by kernel_rfl) (by kernel_rfl) (by kernel_rfl) (by kernel_rfl) (fun _ _ _ h => h) (Or.inl ⟨by rfl, ?_⟩) hS ?_
      rotate_left
      · (intro w hSw; (try dsimp only at hSw); (try simp only [List.getElem_toArray, List.getElem_cons_zero, List.getElem_cons_succ]); go_simp; try with_reducible rfl)
      (try simp only [List.getElem_toArray, List.getElem_cons_zero, List.getElem_cons_succ, Act.put, List.setIfInBounds_toArray, List.set_cons_zero, List.set_cons_succ])
      refine wpAnyZ_take (i := 7) (v := ?_) rfl (by kernel_rfl) (by kernel_rfl) (by kernel_rfl) (by kernel_rfl) (fun _ _ _ h => h) (Or.inl ⟨by rfl, ?_⟩) hS ?_
      rotate_left
      · (intro w hSw; (try dsimp only at hSw); (try simp only [List.getElem_toArray, List.getElem_cons_zero, List.getElem_cons_succ]); go_simp; try with_reducible rfl)
      (try simp only [List.getElem_toArray, List.getElem_cons_zero, List.getElem_cons_succ, Act.put, List.setIfInBounds_toArray, List.set_cons_zero, List.set_cons_succ])
      refine wpAnyZ_take (i := 8) (v := ?_) rfl (by kernel_rfl) (by kernel_rfl) (by kernel_rfl) (by kernel_rfl) (fun _ _ _ h => h) (Or.inl ⟨by rfl, ?_⟩) hS ?_
      rotate_left
      · (intro w hSw; (try dsimp only at hSw); (try simp only [List.getElem_toArray, List.getElem_cons_zero, List.getElem_cons_succ]); go_simp; try with_reducible rfl)
      (try simp only [List.getElem_toArray, List.getElem_cons_zero, List.getElem_cons_succ, Act.put, List.setIfInBounds_toArray, List.set_cons_zero, List.set_cons_succ])
      exact hk'
  case g7 =>
    intro a wc b1 c1 hj hx hy
    obtain ⟨hb, r2, s2, rfl, hw3⟩ := hj
    have hS : wc.cell? ⟨w1.heap.size, 0, none⟩ = some (.slice D1 W.rows.length d1) ∧ wc.cell? ⟨w1.heap.size, 1, none⟩ = some (.slice A1 W.ss.length c1') ∧ wc.cell? ⟨w.heap.size, 0, none⟩ = some (.int .i64 kd) ∧ wc.cell? ⟨w.heap.size, 1, none⟩ = some (.int .i64 a) ∧ wc.cell? ⟨w.heap.size, 2, none⟩ = some (.int .i64 b) ∧ wc.cell? ⟨w.heap.size, 3, none⟩ = some (.int .i64 c) := ⟨(hb.cell (p := ⟨w1.heap.size, 0, none⟩) hAl).trans a0, (hb.cell (p := ⟨w1.heap.size, 1, none⟩) hAl).trans a1, (hb.cell (p := ⟨w.heap.size, 0, none⟩) hXl).trans x0, (hb.cell (p := ⟨w.heap.size, 1, none⟩) hXl).trans x1, (hb.cell (p := ⟨w.heap.size, 2, none⟩) hXl).trans x2, (hb.cell (p := ⟨w.heap.size, 3, none⟩) hXl).trans x3⟩
    have hB1 := (hx b1 rfl).1
    have hC1 := (hy c1 rfl).1
    have hX1 := zs_row hx
    have hY1 := zs_row hy
    have hbc : b1 ≠ c1 := fun e => by have h1 := (hx b1 rfl).2; have h2 := (hy c1 rfl).2; rw [e, h2] at h1; injection h1 with h1; injection h1 with _ h1 _; exact absurd h1 (by decide)
    obtain ⟨A2, c2, rfl, _⟩ := hw3.wld.sess.form
    obtain ⟨D2, d2', rfl, _⟩ := hw3.wld.rows.form
    have HX1 := Lib.hid hX1
    have HY1 := Lib.hid hY1
    have HW3 := Lib.hid hw3
    have HBL := Lib.hid hb
    obtain ⟨z0, z1⟩ := cells2 hX1
    have f0 := hX1.frozen 0
    have f1 := hX1.frozen 1
    have HY2 := Lib.hid (hY1.oth2 hbc (.slice D2 R.1.rows.length d2') (.slice A2 R.1.ss.length c2))
    have nb0 : b1 ≠ w1.heap.size := by omega
    have nc0 : c1 ≠ w1.heap.size := by omega
    have nb1 : b1 ≠ w.heap.size := by omega
    have nc1 : c1 ≠ w.heap.size := by omega
    clear hX1 hY1 hx hy hw3
    simp only [fr, pt, doGood, doBad, putsN, Act.put, List.setIfInBounds_toArray, List.set_cons_zero, List.set_cons_succ]
    refine wpAnyZ_one (i := 11) rfl rfl (by kernel_rfl) (fun K hK => ?_)
    (try simp only [List.getElem_toArray, List.getElem_cons_zero, List.getElem_cons_succ])
    go_simp
    have hS2 := (show ((wc.setCell ⟨b1, 0, none⟩ (.slice D2 R.1.rows.length d2')).setCell ⟨b1, 1, none⟩ (.slice A2 R.1.ss.length c2)).cell? ⟨w1.heap.size, 0, none⟩ = some (.slice D1 W.rows.length d1) ∧ ((wc.setCell ⟨b1, 0, none⟩ (.slice D2 R.1.rows.length d2')).setCell ⟨b1, 1, none⟩ (.slice A2 R.1.ss.length c2)).cell? ⟨w1.heap.size, 1, none⟩ = some (.slice A1 W.ss.length c1') ∧ ((wc.setCell ⟨b1, 0, none⟩ (.slice D2 R.1.rows.length d2')).setCell ⟨b1, 1, none⟩ (.slice A2 R.1.ss.length c2)).cell? ⟨w.heap.size, 0, none⟩ = some (.int .i64 kd) ∧ ((wc.setCell ⟨b1, 0, none⟩ (.slice D2 R.1.rows.length d2')).setCell ⟨b1, 1, none⟩ (.slice A2 R.1.ss.length c2)).cell? ⟨w.heap.size, 1, none⟩ = some (.int .i64 a) ∧ ((wc.setCell ⟨b1, 0, none⟩ (.slice D2 R.1.rows.length d2')).setCell ⟨b1, 1, none⟩ (.slice A2 R.1.ss.length c2)).cell? ⟨w.heap.size, 2, none⟩ = some (.int .i64 b) ∧ ((wc.setCell ⟨b1, 0, none⟩ (.slice D2 R.1.rows.length d2')).setCell ⟨b1, 1, none⟩ (.slice A2 R.1.ss.length c2)).cell? ⟨w.heap.size, 3, none⟩ = some (.int .i64 c) from ⟨cell_sty (p := ⟨b1, 1, none⟩) nb0 (cell_sty (p := ⟨b1, 0, none⟩) nb0 hS.1), cell_sty (p := ⟨b1, 1, none⟩) nb0 (cell_sty (p := ⟨b1, 0, none⟩) nb0 hS.2.1), cell_sty (p := ⟨b1, 1, none⟩) nb1 (cell_sty (p := ⟨b1, 0, none⟩) nb1 hS.2.2.1), cell_sty (p := ⟨b1, 1, none⟩) nb1 (cell_sty (p := ⟨b1, 0, none⟩) nb1 hS.2.2.2.1), cell_sty (p := ⟨b1, 1, none⟩) nb1 (cell_sty (p := ⟨b1, 0, none⟩) nb1 hS.2.2.2.2.1), cell_sty (p := ⟨b1, 1, none⟩) nb1 (cell_sty (p := ⟨b1, 0, none⟩) nb1 hS.2.2.2.2.2)⟩)
    refine hK.out _ _ hS2 ?_
    clear hK K hS
    have hS := hS2
    clear hS2
    (try simp only [List.getElem_toArray, List.getElem_cons_zero, List.getElem_cons_succ, Act.put, List.setIfInBounds_toArray, List.set_cons_zero, List.set_cons_succ])
    obtain ⟨p0, p1, p2⟩ := cells3 HY2.out
    have g0 := HY2.out.frozen 0
    have g1 := HY2.out.frozen 1
    have g2 := HY2.out.frozen 2
    refine wpAnyZ_one (i := 12) rfl rfl (by kernel_rfl) (fun K hK => ?_)
    (try simp only [List.getElem_toArray, List.getElem_cons_zero, List.getElem_cons_succ])
    go_simp
    have hS2 := (show (((((wc.setCell ⟨b1, 0, none⟩ (.slice D2 R.1.rows.length d2')).setCell ⟨b1, 1, none⟩ (.slice A2 R.1.ss.length c2)).setCell ⟨c1, 0, none⟩ (.int .i64 R.2.kind)).setCell ⟨c1, 1, none⟩ (.string R.2.text)).setCell ⟨c1, 2, none⟩ (.int .i64 st)).cell? ⟨w1.heap.size, 0, none⟩ = some (.slice D1 W.rows.length d1) ∧ (((((wc.setCell ⟨b1, 0, none⟩ (.slice D2 R.1.rows.length d2')).setCell ⟨b1, 1, none⟩ (.slice A2 R.1.ss.length c2)).setCell ⟨c1, 0, none⟩ (.int .i64 R.2.kind)).setCell ⟨c1, 1, none⟩ (.string R.2.text)).setCell ⟨c1, 2, none⟩ (.int .i64 st)).cell? ⟨w1.heap.size, 1, none⟩ = some (.slice A1 W.ss.length c1') ∧ (((((wc.setCell ⟨b1, 0, none⟩ (.slice D2 R.1.rows.length d2')).setCell ⟨b1, 1, none⟩ (.slice A2 R.1.ss.length c2)).setCell ⟨c1, 0, none⟩ (.int .i64 R.2.kind)).setCell ⟨c1, 1, none⟩ (.string R.2.text)).setCell ⟨c1, 2, none⟩ (.int .i64 st)).cell? ⟨w.heap.size, 0, none⟩ = some (.int .i64 kd) ∧ (((((wc.setCell ⟨b1, 0, none⟩ (.slice D2 R.1.rows.length d2')).setCell ⟨b1, 1, none⟩ (.slice A2 R.1.ss.length c2)).setCell ⟨c1, 0, none⟩ (.int .i64 R.2.kind)).setCell ⟨c1, 1, none⟩ (.string R.2.text)).setCell ⟨c1, 2, none⟩ (.int .i64 st)).cell? ⟨w.heap.size, 1, none⟩ = some (.int .i64 a) ∧ (((((wc.setCell ⟨b1, 0, none⟩ (.slice D2 R.1.rows.length d2')).setCell ⟨b1, 1, none⟩ (.slice A2 R.1.ss.length c2)).setCell ⟨c1, 0, none⟩ (.int .i64 R.2.kind)).setCell ⟨c1, 1, none⟩ (.string R.2.text)).setCell ⟨c1, 2, none⟩ (.int .i64 st)).cell? ⟨w.heap.size, 2, none⟩ = some (.int .i64 b) ∧ (((((wc.setCell ⟨b1, 0, none⟩ (.slice D2 R.1.rows.length d2')).setCell ⟨b1, 1, none⟩ (.slice A2 R.1.ss.length c2)).setCell ⟨c1, 0, none⟩ (.int .i64 R.2.kind)).setCell ⟨c1, 1, none⟩ (.string R.2.text)).setCell ⟨c1, 2, none⟩ (.int .i64 st)).cell? ⟨w.heap.size, 3, none⟩ = some (.int .i64 c) from ⟨cell_sty (p := ⟨c1, 2, none⟩) nc0 (cell_sty (p := ⟨c1, 1, none⟩) nc0 (cell_sty (p := ⟨c1, 0, none⟩) nc0 hS.1)), cell_sty (p := ⟨c1, 2, none⟩) nc0 (cell_sty (p := ⟨c1, 1, none⟩) nc0 (cell_sty (p := ⟨c1, 0, none⟩) nc0 hS.2.1)), cell_sty (p := ⟨c1, 2, none⟩) nc1 (cell_sty (p := ⟨c1, 1, none⟩) nc1 (cell_sty (p := ⟨c1, 0, none⟩) nc1 hS.2.2.1)), cell_sty (p := ⟨c1, 2, none⟩) nc1 (cell_sty (p := ⟨c1, 1, none⟩) nc1 (cell_sty (p := ⟨c1, 0, none⟩) nc1 hS.2.2.2.1)), cell_sty (p := ⟨c1, 2, none⟩) nc1 (cell_sty (p := ⟨c1, 1, none⟩) nc1 (cell_sty (p := ⟨c1, 0, none⟩) nc1 hS.2.2.2.2.1)), cell_sty (p := ⟨c1, 2, none⟩) nc1 (cell_sty (p := ⟨c1, 1, none⟩) nc1 (cell_sty (p := ⟨c1, 0, none⟩) nc1 hS.2.2.2.2.2))⟩)
    refine hK.out _ _ hS2 ?_
    clear hK K hS
    have hS := hS2
    clear hS2
    (try simp only [List.getElem_toArray, List.getElem_cons_zero, List.getElem_cons_succ, Act.put, List.setIfInBounds_toArray, List.set_cons_zero, List.set_cons_succ])
    refine wpAnyZ_last rfl rfl (by kernel_rfl) (by kernel_rfl) (fun K hK => ?_)
    (try simp only [List.getElem_toArray, List.getElem_cons_zero, List.getElem_cons_succ])
    go_simp
    refine hK.out _ _ ?_
    clear hK K
    (try simp only [List.getElem_toArray, List.getElem_cons_zero, List.getElem_cons_succ, Act.put, List.setIfInBounds_toArray, List.set_cons_zero, List.set_cons_succ])
    have H9 := Lib.hid (new_at (a := R.2) (st := st) HX1.out HY1.out HW3.out HBL.out hB1 hC1 hbc)
    clear hS z0 z1 f0 f1 p0 p1 p2 g0 g1 g2 HY2 nb0 nc0 nb1 nc1 hbc hB1 hC1 HX1 HY1 HW3 HBL hb a0 a1 x0 x1 x2 x3
    generalize (((((wc.setCell ⟨b1, 0, none⟩ (.slice D2 R.1.rows.length d2')).setCell ⟨b1, 1, none⟩ (.slice A2 R.1.ss.length c2)).setCell ⟨c1, 0, none⟩ (.int .i64 R.2.kind)).setCell ⟨c1, 1, none⟩ (.string R.2.text)).setCell ⟨c1, 2, none⟩ (.int .i64 st)) = W9 at *
    have H3 := H9
    clear H9 hS
    have hz9 := H3.out.bel.size
    have hAl9 : w1.heap.size < W9.heap.size := by omega
    have hXl9 : w.heap.size < W9.heap.size := by omega
    obtain ⟨a0, a1⟩ := cells2 (HA1.out.below H3.out.bel hAl)
    have X9 := HX1'.out.below H3.out.bel hXl
    have x0 := X9.cell (j := 0) (by simp)
    have x1 := X9.cell (j := 1) (by simp)
    have x2 := X9.cell (j := 2) (by simp)
    have x3 := X9.cell (j := 3) (by simp)
    simp only [List.getElem_cons_zero, List.getElem_cons_succ] at x0 x1 x2 x3
    clear X9
    generalize b1 = bN at *
    generalize c1 = cN at *
    generalize D2 = DN at *
    generalize d2' = dN at *
    generalize A2 = AN at *
    generalize c2 = eN at *
    go_wp2_with fail
    refine wp_region_z 12 (fun wx => wx.cell? ⟨w1.heap.size, 0, none⟩ = some (.slice D1 W.rows.length d1) ∧ wx.cell? ⟨w1.heap.size, 1, none⟩ = some (.slice A1 W.ss.length c1') ∧ wx.cell? ⟨w.heap.size, 0, none⟩ = some (.int .i64 kd) ∧ wx.cell? ⟨w.heap.size, 1, none⟩ = some (.int .i64 a) ∧ wx.cell? ⟨w.heap.size, 2, none⟩ = some (.int .i64 b) ∧ wx.cell? ⟨w.heap.size, 3, none⟩ = some (.int .i64 c)) (by kernel_rfl) (show W9.drew.cell? ⟨w1.heap.size, 0, none⟩ = some (.slice D1 W.rows.length d1) ∧ W9.drew.cell? ⟨w1.heap.size, 1, none⟩ = some (.slice A1 W.ss.length c1') ∧ W9.drew.cell? ⟨w.heap.size, 0, none⟩ = some (.int .i64 kd) ∧ W9.drew.cell? ⟨w.heap.size, 1, none⟩ = some (.int .i64 a) ∧ W9.drew.cell? ⟨w.heap.size, 2, none⟩ = some (.int .i64 b) ∧ W9.drew.cell? ⟨w.heap.size, 3, none⟩ = some (.int .i64 c) from ⟨a0, a1, x0, x1, x2, x3⟩) (fun hS => ?_)
    refine wpAnyZ_take (i := 0) (v := ?vb0) rfl (by kernel_rfl) (by kernel_rfl) (by kernel_rfl) (by kernel_rfl) (fun _ _ _ h => h) (Or.inl ⟨by rfl, ?yb0⟩) hS ?rb0
    case yb0 => (intro w hSw; (try dsimp only at hSw); (try simp only [List.getElem_toArray, List.getElem_cons_zero, List.getElem_cons_succ]); go_simp; try with_reducible rfl)
    (try simp only [List.getElem_toArray, List.getElem_cons_zero, List.getElem_cons_succ, Act.put, List.setIfInBounds_toArray, List.set_cons_zero, List.set_cons_succ])
    refine wpAnyZ_take (i := 1) (v := ?vb1) rfl (by kernel_rfl) (by kernel_rfl) (by kernel_rfl) (by kernel_rfl) (fun _ _ _ h => h) (Or.inl ⟨by rfl, ?yb1⟩) hS ?rb1
    case yb1 => (intro w hSw; (try dsimp only at hSw); (try simp only [List.getElem_toArray, List.getElem_cons_zero, List.getElem_cons_succ]); go_simp; try with_reducible rfl)
    (try simp only [List.getElem_toArray, List.getElem_cons_zero, List.getElem_cons_succ, Act.put, List.setIfInBounds_toArray, List.set_cons_zero, List.set_cons_succ])
    refine grid0 (C := 2) (cop := fun c => if c = 0 then 2 else 3) (dst := fun c => if c = 0 then 36 else 37) (p := 8) (q := 9) (dp := 12) (dq := 13) (tp := 25) (tq := 30) (zp := #[.slice none 0 0, .slice none 0 0]) (zq := #[.int .i64 0, .string ⟨#[]⟩, .int .i64 0])
      (Lst := fun c x y => #[true, true, decide (0 < c), decide (1 < c), false, false, false, false, x, y, false, false, false]) (Lst' := fun x y => #[true, true, true, true, true, true, true, true, x, y, false, false, false]) ?gGb (DJ W9 1 (fun _ => (36, .agg #[.int .i64 q.k, .string q.key, .string q.val])) 37 (fun r2 s2 => doBad 6) (fun r2 s2 wc => True)) (DJ' W9 (fun A0 r2 s2 => (((((putsN A0 (fun _ => (36, .agg #[.int .i64 q.k, .string q.key, .string q.val])) 1).put (some 37) (doBad 6)).put (some 33) (doBad 6)).put (some 38) (.agg #[.slice none 0 0, .slice none 0 0])).put (some 39) (.agg #[.int .i64 0, .string ⟨#[]⟩, .int .i64 0])).put (some 40) (.int .i64 6)) (fun r2 s2 wc => True)) 3 4 W9.heap.size (dj_alloc (fun _ _ _ _ h => h)) (dj'_alloc (fun _ _ _ _ h => h)) ?g3b ?g4b (fun c a w h => h.1.size) (fun a w h => h.1.size) ?g5b ?g6b ?g7b ⟨(Below.refl _ _).drew, fun _ => rfl, fun h => absurd h (by omega)⟩
    case gGb =>
      refine ⟨⟨_, rfl, rfl, rfl, fun ev w => (by go_simp; rfl)⟩, ⟨_, rfl, rfl, rfl, fun ev w => (by go_simp; rfl)⟩, (by decide), fun c h => (by (repeat' split) <;> decide), fun c x y h => ?_, fun x y h => (match x, y, h with | false, false, _ => (by kernel_rfl) | false, true, _ => (by kernel_rfl) | true, false, _ => (by kernel_rfl) | true, true, h => (by cases h)), fun c x y h => ?_, fun c y h => rfl, fun c x h => rfl, fun y => rfl, fun x => rfl⟩
      · match c, h with
        | 0, _ => cases x <;> cases y <;> (show _ = _; kernel_rfl)
        | 1, _ => cases x <;> cases y <;> (show _ = _; kernel_rfl)
      · match c, h with
        | 0, _ => rfl
        | 1, _ => rfl
    case g3b => exact fun c a wc h => ⟨(h.1.cell (p := ⟨w1.heap.size, 0, none⟩) hAl9).trans a0, (h.1.cell (p := ⟨w1.heap.size, 1, none⟩) hAl9).trans a1, (h.1.cell (p := ⟨w.heap.size, 0, none⟩) hXl9).trans x0, (h.1.cell (p := ⟨w.heap.size, 1, none⟩) hXl9).trans x1, (h.1.cell (p := ⟨w.heap.size, 2, none⟩) hXl9).trans x2, (h.1.cell (p := ⟨w.heap.size, 3, none⟩) hXl9).trans x3⟩
    case g4b => exact fun a wc h => ⟨(h.1.cell (p := ⟨w1.heap.size, 0, none⟩) hAl9).trans a0, (h.1.cell (p := ⟨w1.heap.size, 1, none⟩) hAl9).trans a1, (h.1.cell (p := ⟨w.heap.size, 0, none⟩) hXl9).trans x0, (h.1.cell (p := ⟨w.heap.size, 1, none⟩) hXl9).trans x1, (h.1.cell (p := ⟨w.heap.size, 2, none⟩) hXl9).trans x2, (h.1.cell (p := ⟨w.heap.size, 3, none⟩) hXl9).trans x3⟩
    case g5b =>
      intro c0 a wc x' y hc0 hj hx hy
      match c0, hc0, hj with
      | 0, _, hj =>
        obtain ⟨hb, hf, _⟩ := hj
        obtain rfl := hf (by omega)
        refine wpOp_wp rfl rfl (wp_call (g := 15) (args := #[.agg #[.int .i64 kd, .int .i64 a, .int .i64 b, .int .i64 c]]) ?_ ?_)
        · cases x' <;> cases y <;> (simp only [fr, pt, doGood, doBad, putsN, Act.put, List.setIfInBounds_toArray, List.set_cons_zero, List.set_cons_succ]; go_simp; try rfl)
        · refine (HT2.out wc).mono ?_
          rintro e w3 ⟨rfl, hb3⟩
          exact ⟨_, rfl, _, rfl, ⟨bel_add' hb hb3 hb.size, fun _ => rfl, fun h => absurd h (by omega)⟩, zs_below hx hb3, zs_below hy hb3⟩
      | 1, _, hj =>
        obtain ⟨hb, hf, _⟩ := hj
        obtain rfl := hf (by omega)
        refine wpOp_wp rfl rfl (wp_call (g := 10) (args := #[.agg #[.slice D1 W.rows.length d1, .slice A1 W.ss.length c1'], .int .i64 4, .agg #[.int .i64 q.k, .string q.key, .string q.val]]) ?_ ?_)
        · cases x' <;> cases y <;> (simp only [fr, pt, doGood, doBad, putsN, Act.put, List.setIfInBounds_toArray, List.set_cons_zero, List.set_cons_succ]; go_simp; try rfl)
        · refine (HBAD.out _ _ wc ((HW1.out.step H3.out.bel).step hb) (HWo.out.below (bel_add' (bel_add' HB1.out H3.out.bel HB1.out.size) hb (bel_add' HB1.out H3.out.bel HB1.out.size).size))).mono ?_
          rintro e w3 ⟨rfl, hb3⟩
          exact ⟨_, rfl, _, rfl, ⟨bel_add' hb hb3 hb.size, fun h => absurd h (by omega), fun _ => ⟨.int .i64 0, .int .i64 0, rfl, trivial⟩⟩, zs_below hx hb3, zs_below hy hb3⟩
    case g6b =>
      intro a wc x' y n' hj hx hy hk'
      obtain ⟨hb, _, hj⟩ := hj
      obtain ⟨r2, s2, rfl, hw3⟩ := hj (by omega)
      have hS : wc.cell? ⟨w1.heap.size, 0, none⟩ = some (.slice D1 W.rows.length d1) ∧ wc.cell? ⟨w1.heap.size, 1, none⟩ = some (.slice A1 W.ss.length c1') ∧ wc.cell? ⟨w.heap.size, 0, none⟩ = some (.int .i64 kd) ∧ wc.cell? ⟨w.heap.size, 1, none⟩ = some (.int .i64 a) ∧ wc.cell? ⟨w.heap.size, 2, none⟩ = some (.int .i64 b) ∧ wc.cell? ⟨w.heap.size, 3, none⟩ = some (.int .i64 c) := ⟨(hb.cell (p := ⟨w1.heap.size, 0, none⟩) hAl9).trans a0, (hb.cell (p := ⟨w1.heap.size, 1, none⟩) hAl9).trans a1, (hb.cell (p := ⟨w.heap.size, 0, none⟩) hXl9).trans x0, (hb.cell (p := ⟨w.heap.size, 1, none⟩) hXl9).trans x1, (hb.cell (p := ⟨w.heap.size, 2, none⟩) hXl9).trans x2, (hb.cell (p := ⟨w.heap.size, 3, none⟩) hXl9).trans x3⟩
      have hk' := hk' _ ⟨hb, r2, s2, rfl, hw3⟩
      clear hx hy hw3
      cases x' <;> cases y
      all_goals
        simp only [fr, pt, doGood, doBad, putsN, Act.put, List.setIfInBounds_toArray, List.set_cons_zero, List.set_cons_succ]
        simp only [fr, pt, doGood, doBad, putsN, Act.put, List.setIfInBounds_toArray, List.set_cons_zero, List.set_cons_succ] at hk'
        refine wpAnyZ_take (i := 4) (v := ?_) rfl (by kernel_rfl) (by kernel_rfl) (by kernel_rfl) (by kernel_rfl) (fun _ _ _ h => h) (Or.inl ⟨by rfl, ?_⟩) hS ?_
        rotate_left
        · (intro w hSw; (try dsimp only at hSw); (try simp only [List.getElem_toArray, List.getElem_cons_zero, List.getElem_cons_succ]); go_simp; try with_reducible rfl)
        (try simp only [List.getElem_toArray, List.getElem_cons_zero, List.getElem_cons_succ, Act.put, List.setIfInBounds_toArray, List.set_cons_zero, List.set_cons_succ])
        refine wpAnyZ_take (i := 5) (v := ?_) rfl (by kernel_rfl) (by kernel_rfl) (by kernel_rfl) (by kernel_rfl) (fun _ _ _ h => h) (Or.inl ⟨by rfl, ?_⟩) hS ?_
        rotate_left
        · (intro w hSw; (try dsimp only at hSw); (try simp only [List.getElem_toArray, List.getElem_cons_zero, List.getElem_cons_succ]); go_simp; try with_reducible rfl)
        (try simp only [List.getElem_toArray, List.getElem_cons_zero, List.getElem_cons_succ, Act.put, List.setIfInBounds_toArray, List.set_cons_zero, List.set_cons_succ])
        refine wpAnyZ_take (i := 6) (v := ?_) rfl (by kernel_rfl) (by kernel_rfl) (by kernel_rfl) (by kernel_rfl) (fun _ _ _ h => h) (Or.inl ⟨by rfl, ?_⟩) hS ?_
        rotate_left
        · (intro w hSw; (try dsimp only at hSw); (try simp only [List.getElem_toArray, List.getElem_cons_zero, List.getElem_cons_succ]); go_simp; try with_reducible rfl)
        (try simp only [List.getElem_toArray, List.getElem_cons_zero, List.getElem_cons_succ, Act.put, List.setIfInBounds_toArray, List.set_cons_zero, List.set_cons_succ])
        refine wpAnyZ_take (i := 7) (v := ?_) rfl (by kernel_rfl) (by kernel_rfl) (by kernel_rfl) (by kernel_rfl) (fun _ _ _ h => h) (Or.inl ⟨by rfl, ?_⟩) hS ?_
        rotate_left
        · (intro w hSw; (try dsimp only at hSw); (try simp only [List.getElem_toArray, List.getElem_cons_zero, List.getElem_cons_succ]); go_simp; try with_reducible rfl)
        (try simp only [List.getElem_toArray, List.getElem_cons_zero, List.getElem_cons_succ, Act.put, List.setIfInBounds_toArray, List.set_cons_zero, List.set_cons_succ])
        exact hk'
    case g7b =>
      intro a wc b1 c1 hj hx hy
      obtain ⟨hb, r2, s2, rfl, hw3⟩ := hj
      have hS : wc.cell? ⟨w1.heap.size, 0, none⟩ = some (.slice D1 W.rows.length d1) ∧ wc.cell? ⟨w1.heap.size, 1, none⟩ = some (.slice A1 W.ss.length c1') ∧ wc.cell? ⟨w.heap.size, 0, none⟩ = some (.int .i64 kd) ∧ wc.cell? ⟨w.heap.size, 1, none⟩ = some (.int .i64 a) ∧ wc.cell? ⟨w.heap.size, 2, none⟩ = some (.int .i64 b) ∧ wc.cell? ⟨w.heap.size, 3, none⟩ = some (.int .i64 c) := ⟨(hb.cell (p := ⟨w1.heap.size, 0, none⟩) hAl9).trans a0, (hb.cell (p := ⟨w1.heap.size, 1, none⟩) hAl9).trans a1, (hb.cell (p := ⟨w.heap.size, 0, none⟩) hXl9).trans x0, (hb.cell (p := ⟨w.heap.size, 1, none⟩) hXl9).trans x1, (hb.cell (p := ⟨w.heap.size, 2, none⟩) hXl9).trans x2, (hb.cell (p := ⟨w.heap.size, 3, none⟩) hXl9).trans x3⟩
      have hB1 := (hx b1 rfl).1
      have hC1 := (hy c1 rfl).1
      have hX1 := zs_row hx
      have hY1 := zs_row hy
      have hbc : b1 ≠ c1 := fun e => by have h1 := (hx b1 rfl).2; have h2 := (hy c1 rfl).2; rw [e, h2] at h1; injection h1 with h1; injection h1 with _ h1 _; exact absurd h1 (by decide)
      have HX1 := Lib.hid hX1
      have HY1 := Lib.hid hY1
      have HW3 := Lib.hid hw3
      have HBL := Lib.hid hb
      obtain ⟨z0, z1⟩ := cells2 hX1
      have f0 := hX1.frozen 0
      have f1 := hX1.frozen 1
      have HY2 := Lib.hid (hY1.oth2 hbc (.slice none 0 0) (.slice none 0 0))
      have nb0 : b1 ≠ w1.heap.size := by omega
      have nc0 : c1 ≠ w1.heap.size := by omega
      have nb1 : b1 ≠ w.heap.size := by omega
      have nc1 : c1 ≠ w.heap.size := by omega
      clear hX1 hY1 hx hy hw3
      simp only [fr, pt, doGood, doBad, putsN, Act.put, List.setIfInBounds_toArray, List.set_cons_zero, List.set_cons_succ]
      refine wpAnyZ_one (i := 10) rfl rfl (by kernel_rfl) (fun K hK => ?_)
      (try simp only [List.getElem_toArray, List.getElem_cons_zero, List.getElem_cons_succ])
      go_simp
      have hS2 := (show ((wc.setCell ⟨b1, 0, none⟩ (.slice none 0 0)).setCell ⟨b1, 1, none⟩ (.slice none 0 0)).cell? ⟨w1.heap.size, 0, none⟩ = some (.slice D1 W.rows.length d1) ∧ ((wc.setCell ⟨b1, 0, none⟩ (.slice none 0 0)).setCell ⟨b1, 1, none⟩ (.slice none 0 0)).cell? ⟨w1.heap.size, 1, none⟩ = some (.slice A1 W.ss.length c1') ∧ ((wc.setCell ⟨b1, 0, none⟩ (.slice none 0 0)).setCell ⟨b1, 1, none⟩ (.slice none 0 0)).cell? ⟨w.heap.size, 0, none⟩ = some (.int .i64 kd) ∧ ((wc.setCell ⟨b1, 0, none⟩ (.slice none 0 0)).setCell ⟨b1, 1, none⟩ (.slice none 0 0)).cell? ⟨w.heap.size, 1, none⟩ = some (.int .i64 a) ∧ ((wc.setCell ⟨b1, 0, none⟩ (.slice none 0 0)).setCell ⟨b1, 1, none⟩ (.slice none 0 0)).cell? ⟨w.heap.size, 2, none⟩ = some (.int .i64 b) ∧ ((wc.setCell ⟨b1, 0, none⟩ (.slice none 0 0)).setCell ⟨b1, 1, none⟩ (.slice none 0 0)).cell? ⟨w.heap.size, 3, none⟩ = some (.int .i64 c) from ⟨cell_sty (p := ⟨b1, 1, none⟩) nb0 (cell_sty (p := ⟨b1, 0, none⟩) nb0 hS.1), cell_sty (p := ⟨b1, 1, none⟩) nb0 (cell_sty (p := ⟨b1, 0, none⟩) nb0 hS.2.1), cell_sty (p := ⟨b1, 1, none⟩) nb1 (cell_sty (p := ⟨b1, 0, none⟩) nb1 hS.2.2.1), cell_sty (p := ⟨b1, 1, none⟩) nb1 (cell_sty (p := ⟨b1, 0, none⟩) nb1 hS.2.2.2.1), cell_sty (p := ⟨b1, 1, none⟩) nb1 (cell_sty (p := ⟨b1, 0, none⟩) nb1 hS.2.2.2.2.1), cell_sty (p := ⟨b1, 1, none⟩) nb1 (cell_sty (p := ⟨b1, 0, none⟩) nb1 hS.2.2.2.2.2)⟩)
      refine hK.out _ _ hS2 ?_
      clear hK K hS
      have hS := hS2
      clear hS2
      (try simp only [List.getElem_toArray, List.getElem_cons_zero, List.getElem_cons_succ, Act.put, List.setIfInBounds_toArray, List.set_cons_zero, List.set_cons_succ])
      obtain ⟨p0, p1, p2⟩ := cells3 HY2.out
      have g0 := HY2.out.frozen 0
      have g1 := HY2.out.frozen 1
      have g2 := HY2.out.frozen 2
      refine wpAnyZ_one (i := 11) rfl rfl (by kernel_rfl) (fun K hK => ?_)
      (try simp only [List.getElem_toArray, List.getElem_cons_zero, List.getElem_cons_succ])
      go_simp
      have hS2 := (show (((((wc.setCell ⟨b1, 0, none⟩ (.slice none 0 0)).setCell ⟨b1, 1, none⟩ (.slice none 0 0)).setCell ⟨c1, 0, none⟩ (.int .i64 0)).setCell ⟨c1, 1, none⟩ (.string ⟨#[]⟩)).setCell ⟨c1, 2, none⟩ (.int .i64 0)).cell? ⟨w1.heap.size, 0, none⟩ = some (.slice D1 W.rows.length d1) ∧ (((((wc.setCell ⟨b1, 0, none⟩ (.slice none 0 0)).setCell ⟨b1, 1, none⟩ (.slice none 0 0)).setCell ⟨c1, 0, none⟩ (.int .i64 0)).setCell ⟨c1, 1, none⟩ (.string ⟨#[]⟩)).setCell ⟨c1, 2, none⟩ (.int .i64 0)).cell? ⟨w1.heap.size, 1, none⟩ = some (.slice A1 W.ss.length c1') ∧ (((((wc.setCell ⟨b1, 0, none⟩ (.slice none 0 0)).setCell ⟨b1, 1, none⟩ (.slice none 0 0)).setCell ⟨c1, 0, none⟩ (.int .i64 0)).setCell ⟨c1, 1, none⟩ (.string ⟨#[]⟩)).setCell ⟨c1, 2, none⟩ (.int .i64 0)).cell? ⟨w.heap.size, 0, none⟩ = some (.int .i64 kd) ∧ (((((wc.setCell ⟨b1, 0, none⟩ (.slice none 0 0)).setCell ⟨b1, 1, none⟩ (.slice none 0 0)).setCell ⟨c1, 0, none⟩ (.int .i64 0)).setCell ⟨c1, 1, none⟩ (.string ⟨#[]⟩)).setCell ⟨c1, 2, none⟩ (.int .i64 0)).cell? ⟨w.heap.size, 1, none⟩ = some (.int .i64 a) ∧ (((((wc.setCell ⟨b1, 0, none⟩ (.slice none 0 0)).setCell ⟨b1, 1, none⟩ (.slice none 0 0)).setCell ⟨c1, 0, none⟩ (.int .i64 0)).setCell ⟨c1, 1, none⟩ (.string ⟨#[]⟩)).setCell ⟨c1, 2, none⟩ (.int .i64 0)).cell? ⟨w.heap.size, 2, none⟩ = some (.int .i64 b) ∧ (((((wc.setCell ⟨b1, 0, none⟩ (.slice none 0 0)).setCell ⟨b1, 1, none⟩ (.slice none 0 0)).setCell ⟨c1, 0, none⟩ (.int .i64 0)).setCell ⟨c1, 1, none⟩ (.string ⟨#[]⟩)).setCell ⟨c1, 2, none⟩ (.int .i64 0)).cell? ⟨w.heap.size, 3, none⟩ = some (.int .i64 c) from ⟨cell_sty (p := ⟨c1, 2, none⟩) nc0 (cell_sty (p := ⟨c1, 1, none⟩) nc0 (cell_sty (p := ⟨c1, 0, none⟩) nc0 hS.1)), cell_sty (p := ⟨c1, 2, none⟩) nc0 (cell_sty (p := ⟨c1, 1, none⟩) nc0 (cell_sty (p := ⟨c1, 0, none⟩) nc0 hS.2.1)), cell_sty (p := ⟨c1, 2, none⟩) nc1 (cell_sty (p := ⟨c1, 1, none⟩) nc1 (cell_sty (p := ⟨c1, 0, none⟩) nc1 hS.2.2.1)), cell_sty (p := ⟨c1, 2, none⟩) nc1 (cell_sty (p := ⟨c1, 1, none⟩) nc1 (cell_sty (p := ⟨c1, 0, none⟩) nc1 hS.2.2.2.1)), cell_sty (p := ⟨c1, 2, none⟩) nc1 (cell_sty (p := ⟨c1, 1, none⟩) nc1 (cell_sty (p := ⟨c1, 0, none⟩) nc1 hS.2.2.2.2.1)), cell_sty (p := ⟨c1, 2, none⟩) nc1 (cell_sty (p := ⟨c1, 1, none⟩) nc1 (cell_sty (p := ⟨c1, 0, none⟩) nc1 hS.2.2.2.2.2))⟩)
      refine hK.out _ _ hS2 ?_
      clear hK K hS
      have hS := hS2
      clear hS2
      (try simp only [List.getElem_toArray, List.getElem_cons_zero, List.getElem_cons_succ, Act.put, List.setIfInBounds_toArray, List.set_cons_zero, List.set_cons_succ])
      refine wpAnyZ_last rfl rfl (by kernel_rfl) (by kernel_rfl) (fun K hK => ?_)
      (try simp only [List.getElem_toArray, List.getElem_cons_zero, List.getElem_cons_succ])
      go_simp
      refine hK.out _ _ ?_
      clear hK K
      (try simp only [List.getElem_toArray, List.getElem_cons_zero, List.getElem_cons_succ, Act.put, List.setIfInBounds_toArray, List.set_cons_zero, List.set_cons_succ])
      have H9 := Lib.hid (bel_set3 (bel_set2 HBL.out hB1 (.slice none 0 0) (.slice none 0 0)) hC1 (.int .i64 0) (.string ⟨#[]⟩) (.int .i64 0))
      clear hS z0 z1 f0 f1 p0 p1 p2 g0 g1 g2 HY2 nb0 nc0 nb1 nc1 hbc hB1 hC1 HX1 HY1 HW3 HBL hb a0 a1 x0 x1 x2 x3
      generalize (((((wc.setCell ⟨b1, 0, none⟩ (.slice none 0 0)).setCell ⟨b1, 1, none⟩ (.slice none 0 0)).setCell ⟨c1, 0, none⟩ (.int .i64 0)).setCell ⟨c1, 1, none⟩ (.string ⟨#[]⟩)).setCell ⟨c1, 2, none⟩ (.int .i64 0)) = WB at *
      obtain ⟨WA, HWA⟩ : ∃ u, Hid (u = WB) := ⟨_, Lib.hid rfl⟩
      rw [← HWA.out] at H9 ⊢
      clear HWA
      have hB3 := H3.out.bel
      have b39 := bel_add' hB3 H9.out hB3.size
      have hA9 := HA1.out.below b39 hAl
      obtain ⟨m0, m1⟩ := cells2 hA9
      have hN9 := H3.out.b.below H9.out H3.out.b.lt
      have hM9 := H3.out.c.below H9.out H3.out.c.lt
      have hW9 := HW1.out.step b39
      have hV9 := H3.out.wld.wld.step H9.out
      have hiR : i < R.1.ss.length := by have := HLV.out; omega
      obtain ⟨gN, oN, v1, v2, v3, v4, hAN, hgN, sN⟩ := hV9.sess.pt hiR
      subst hAN
      obtain ⟨m2, m3⟩ := cells2 hN9
      obtain ⟨_, _, m4⟩ := cells3 hM9
      have m5 := sN.c0
      rw [← at_lt hiR, HST.out] at m5
      have k0 := hA9.lt
      have k1 := hN9.lt
      have k2 := hM9.lt
      have k3 := hgN
      have HBA := Lib.hid (bel_add' HB1.out b39 HB1.out.size)
      have HK1 := Lib.hid (fun (wx : World) (hx : Below WA.heap.size WA wx) => backCheck_any _ _ W wx (hW9.step hx) (HWo.out.below (bel_add' HBA.out hx HBA.out.size)))
      have HK2 := Lib.hid (fun (wx : World) (hx : Below WA.heap.size WA wx) => backCheck_any _ _ R.1 wx (hV9.step hx) (HWo.out.below (bel_add' HBA.out hx HBA.out.size)))
      rw [checkW_ok (worldB_iff.2 HCW.out)] at HK1
      rw [checkW_ok (worldB_iff.2 HCV.out)] at HK2
      have hl4 := HLV.out
      clear hB3 b39 hA9 hN9 hM9 hW9 hV9 sN hiR H3 H9 HLV HLW HCW HCV HST HA1 HB1 HW1 HWo HBAD HDO HT2 HL HP HX1' hXl hAl hsz hz1 hgN
      have hi4I : (i : Int) < 4 := by omega
      generalize R.1.ss.length = nR at *
      subst hl4
      go_wp2_with fail
      clear hS hz9 hAl9 hXl9
      as_aux_lemma =>
        refine wp_region_z 36 (fun wx => wx.cell? ⟨w1.heap.size, 0, none⟩ = some (.slice D1 W.rows.length d1) ∧ wx.cell? ⟨w1.heap.size, 1, none⟩ = some (.slice A1 W.ss.length c1') ∧ wx.cell? ⟨bN, 0, none⟩ = some (.slice DN R.1.rows.length dN) ∧ wx.cell? ⟨bN, 1, none⟩ = some (.slice (some ⟨gN, oN, none⟩) 4 eN) ∧ wx.cell? ⟨cN, 2, none⟩ = some (.int .i64 st) ∧ wx.cell? ⟨gN, oN + i * 5, none⟩ = some (.int .i64 st)) (by kernel_rfl) (show WA.drew.cell? ⟨w1.heap.size, 0, none⟩ = some (.slice D1 W.rows.length d1) ∧ WA.drew.cell? ⟨w1.heap.size, 1, none⟩ = some (.slice A1 W.ss.length c1') ∧ WA.drew.cell? ⟨bN, 0, none⟩ = some (.slice DN R.1.rows.length dN) ∧ WA.drew.cell? ⟨bN, 1, none⟩ = some (.slice (some ⟨gN, oN, none⟩) 4 eN) ∧ WA.drew.cell? ⟨cN, 2, none⟩ = some (.int .i64 st) ∧ WA.drew.cell? ⟨gN, oN + i * 5, none⟩ = some (.int .i64 st) from ⟨m0, m1, m2, m3, m4, m5⟩) (fun hS => ?_)
        refine wpAnyZ_take (i := 0) (v := ?vq0) rfl (by kernel_rfl) (by kernel_rfl) (by kernel_rfl) (by kernel_rfl) (fun _ _ _ h => h) (Or.inl ⟨by rfl, ?yq0⟩) hS ?rq0
        case yq0 => (intro w hSw; (try dsimp only at hSw); (try simp only [List.getElem_toArray, List.getElem_cons_zero, List.getElem_cons_succ]); go_simp; try with_reducible rfl)
        (try simp only [List.getElem_toArray, List.getElem_cons_zero, List.getElem_cons_succ, Act.put, List.setIfInBounds_toArray, List.set_cons_zero, List.set_cons_succ])
        refine wpAnyZ_take (i := 1) (v := ?vq1) rfl (by kernel_rfl) (by kernel_rfl) (by kernel_rfl) (by kernel_rfl) (fun _ _ _ h => h) (Or.inl ⟨by rfl, ?yq1⟩) hS ?rq1
        case yq1 => (intro w hSw; (try dsimp only at hSw); (try simp only [List.getElem_toArray, List.getElem_cons_zero, List.getElem_cons_succ]); go_simp; try with_reducible rfl)
        (try simp only [List.getElem_toArray, List.getElem_cons_zero, List.getElem_cons_succ, Act.put, List.setIfInBounds_toArray, List.set_cons_zero, List.set_cons_succ])
        refine wpAnyZ_take (i := 2) (v := ?vq2) rfl (by kernel_rfl) (by kernel_rfl) (by kernel_rfl) (by kernel_rfl) (fun _ _ _ h => h) (Or.inl ⟨by rfl, ?yq2⟩) hS ?rq2
        case yq2 => (intro w hSw; (try dsimp only at hSw); (try simp only [List.getElem_toArray, List.getElem_cons_zero, List.getElem_cons_succ]); go_simp; try with_reducible rfl)
        (try simp only [List.getElem_toArray, List.getElem_cons_zero, List.getElem_cons_succ, Act.put, List.setIfInBounds_toArray, List.set_cons_zero, List.set_cons_succ])
        refine wpAnyZ_take (i := 3) (v := ?vq3) rfl (by kernel_rfl) (by kernel_rfl) (by kernel_rfl) (by kernel_rfl) (fun _ _ _ h => h) (Or.inl ⟨by rfl, ?yq3⟩) hS ?rq3
        case yq3 => (intro w hSw; (try dsimp only at hSw); (try simp only [List.getElem_toArray, List.getElem_cons_zero, List.getElem_cons_succ]); go_simp; try with_reducible rfl)
        (try simp only [List.getElem_toArray, List.getElem_cons_zero, List.getElem_cons_succ, Act.put, List.setIfInBounds_toArray, List.set_cons_zero, List.set_cons_succ])
        refine wpAnyZ_take (i := 4) (v := ?vq4) rfl (by kernel_rfl) (by kernel_rfl) (by kernel_rfl) (by kernel_rfl) (fun _ _ _ h => h) (Or.inl ⟨by rfl, ?yq4⟩) hS ?rq4
        case yq4 => (intro w hSw; (try dsimp only at hSw); (try simp only [List.getElem_toArray, List.getElem_cons_zero, List.getElem_cons_succ]); go_simp; try with_reducible rfl)
        (try simp only [List.getElem_toArray, List.getElem_cons_zero, List.getElem_cons_succ, Act.put, List.setIfInBounds_toArray, List.set_cons_zero, List.set_cons_succ])
        refine wpAnyZ_take (i := 5) (v := ?vq5) rfl (by kernel_rfl) (by kernel_rfl) (by kernel_rfl) (by kernel_rfl) (fun _ _ _ h => h) (Or.inl ⟨by rfl, ?yq5⟩) hS ?rq5
        case yq5 => (intro w hSw; (try dsimp only at hSw); (try simp only [List.getElem_toArray, List.getElem_cons_zero, List.getElem_cons_succ]); go_simp; try with_reducible rfl)
        (try simp only [List.getElem_toArray, List.getElem_cons_zero, List.getElem_cons_succ, Act.put, List.setIfInBounds_toArray, List.set_cons_zero, List.set_cons_succ])
        refine wpAnyZ_take (i := 6) (v := ?vq6) rfl (by kernel_rfl) (by kernel_rfl) (by kernel_rfl) (by kernel_rfl) (fun _ _ _ h => h) (Or.inl ⟨by rfl, ?yq6⟩) hS ?rq6
        case yq6 => (intro w hSw; (try dsimp only at hSw); (try simp only [List.getElem_toArray, List.getElem_cons_zero, List.getElem_cons_succ]); go_simp; try with_reducible rfl)
        (try simp only [List.getElem_toArray, List.getElem_cons_zero, List.getElem_cons_succ, Act.put, List.setIfInBounds_toArray, List.set_cons_zero, List.set_cons_succ])
        refine wpAnyZ_take (i := 7) (v := ?vq7) rfl (by kernel_rfl) (by kernel_rfl) (by kernel_rfl) (by kernel_rfl) (fun _ _ _ h => h) (Or.inl ⟨by rfl, ?yq7⟩) hS ?rq7
        case yq7 => (intro w hSw; (try dsimp only at hSw); (try simp only [List.getElem_toArray, List.getElem_cons_zero, List.getElem_cons_succ]); go_simp; try with_reducible rfl)
        (try simp only [List.getElem_toArray, List.getElem_cons_zero, List.getElem_cons_succ, Act.put, List.setIfInBounds_toArray, List.set_cons_zero, List.set_cons_succ])
        refine wpAnyZ_take (i := 8) (v := ?vq8) rfl (by kernel_rfl) (by kernel_rfl) (by kernel_rfl) (by kernel_rfl) (fun _ _ _ h => h) (Or.inl ⟨by rfl, ?yq8⟩) hS ?rq8
        case yq8 => (intro w hSw; (try dsimp only at hSw); (try simp only [List.getElem_toArray, List.getElem_cons_zero, List.getElem_cons_succ]); go_simp; try with_reducible rfl)
        (try simp only [List.getElem_toArray, List.getElem_cons_zero, List.getElem_cons_succ, Act.put, List.setIfInBounds_toArray, List.set_cons_zero, List.set_cons_succ])
        refine wpAnyZ_take (i := 9) (v := ?vq9) rfl (by kernel_rfl) (by kernel_rfl) (by kernel_rfl) (by kernel_rfl) (fun _ _ _ h => h) (Or.inl ⟨by rfl, ?yq9⟩) hS ?rq9
        case yq9 => (intro w hSw; (try dsimp only at hSw); (try simp only [List.getElem_toArray, List.getElem_cons_zero, List.getElem_cons_succ]); go_simp; try with_reducible rfl)
        (try simp only [List.getElem_toArray, List.getElem_cons_zero, List.getElem_cons_succ, Act.put, List.setIfInBounds_toArray, List.set_cons_zero, List.set_cons_succ])
        refine wpAnyZ_take (i := 10) (v := ?vq10) rfl (by kernel_rfl) (by kernel_rfl) (by kernel_rfl) (by kernel_rfl) (fun _ _ _ h => h) (Or.inl ⟨by rfl, ?yq10⟩) hS ?rq10
        case yq10 => (intro w hSw; (try dsimp only at hSw); (try simp only [List.getElem_toArray, List.getElem_cons_zero, List.getElem_cons_succ]); go_simp; try with_reducible rfl)
        (try simp only [List.getElem_toArray, List.getElem_cons_zero, List.getElem_cons_succ, Act.put, List.setIfInBounds_toArray, List.set_cons_zero, List.set_cons_succ])
        refine wpAnyZ_oneG (i := 11) rfl rfl (by kernel_rfl) (fun K hK => ?_)
        (try simp only [List.getElem_toArray, List.getElem_cons_zero, List.getElem_cons_succ])
        go_simp
        refine (HK1.out _ (Below.refl _ _).drew).mono ?_
        rintro e w3 ⟨rfl, hb3⟩
        have kb := bel_add' (Below.refl WA.heap.size WA).drew hb3 (Nat.le_refl _)
        clear hb3
        go_simp
        have hS2 := (show w3.cell? ⟨w1.heap.size, 0, none⟩ = some (.slice D1 W.rows.length d1) ∧ w3.cell? ⟨w1.heap.size, 1, none⟩ = some (.slice A1 W.ss.length c1') ∧ w3.cell? ⟨bN, 0, none⟩ = some (.slice DN R.1.rows.length dN) ∧ w3.cell? ⟨bN, 1, none⟩ = some (.slice (some ⟨gN, oN, none⟩) 4 eN) ∧ w3.cell? ⟨cN, 2, none⟩ = some (.int .i64 st) ∧ w3.cell? ⟨gN, oN + i * 5, none⟩ = some (.int .i64 st) from ⟨(kb.cell (p := ⟨w1.heap.size, 0, none⟩) k0).trans m0, (kb.cell (p := ⟨w1.heap.size, 1, none⟩) k0).trans m1, (kb.cell (p := ⟨bN, 0, none⟩) k1).trans m2, (kb.cell (p := ⟨bN, 1, none⟩) k1).trans m3, (kb.cell (p := ⟨cN, 2, none⟩) k2).trans m4, (kb.cell (p := ⟨gN, oN + i * 5, none⟩) k3).trans m5⟩)
        refine hK.out _ _ hS2 ?_
        clear hK K hS
        have hS := hS2
        clear hS2
        (try simp only [List.getElem_toArray, List.getElem_cons_zero, List.getElem_cons_succ, Act.put, List.setIfInBounds_toArray, List.set_cons_zero, List.set_cons_succ])
        refine wpAnyZ_take (i := 12) (v := ?vq12) rfl (by kernel_rfl) (by kernel_rfl) (by kernel_rfl) (by kernel_rfl) (fun _ _ _ h => h) (Or.inl ⟨by rfl, ?yq12⟩) hS ?rq12
        case yq12 => (intro w hSw; (try dsimp only at hSw); (try simp only [List.getElem_toArray, List.getElem_cons_zero, List.getElem_cons_succ]); go_simp; try with_reducible rfl)
        (try simp only [List.getElem_toArray, List.getElem_cons_zero, List.getElem_cons_succ, Act.put, List.setIfInBounds_toArray, List.set_cons_zero, List.set_cons_succ])
        refine wpAnyZ_take (i := 13) (v := ?vq13) rfl (by kernel_rfl) (by kernel_rfl) (by kernel_rfl) (by kernel_rfl) (fun _ _ _ h => h) (Or.inl ⟨by rfl, ?yq13⟩) hS ?rq13
        case yq13 => (intro w hSw; (try dsimp only at hSw); (try simp only [List.getElem_toArray, List.getElem_cons_zero, List.getElem_cons_succ]); go_simp; try with_reducible rfl)
        (try simp only [List.getElem_toArray, List.getElem_cons_zero, List.getElem_cons_succ, Act.put, List.setIfInBounds_toArray, List.set_cons_zero, List.set_cons_succ])
        refine wpAnyZ_take (i := 14) (v := ?vq14) rfl (by kernel_rfl) (by kernel_rfl) (by kernel_rfl) (by kernel_rfl) (fun _ _ _ h => h) (Or.inl ⟨by rfl, ?yq14⟩) hS ?rq14
        case yq14 => (intro w hSw; (try dsimp only at hSw); (try simp only [List.getElem_toArray, List.getElem_cons_zero, List.getElem_cons_succ]); go_simp; try with_reducible rfl)
        (try simp only [List.getElem_toArray, List.getElem_cons_zero, List.getElem_cons_succ, Act.put, List.setIfInBounds_toArray, List.set_cons_zero, List.set_cons_succ])
        refine wpAnyZ_take (i := 15) (v := ?vq15) rfl (by kernel_rfl) (by kernel_rfl) (by kernel_rfl) (by kernel_rfl) (fun _ _ _ h => h) (Or.inl ⟨by rfl, ?yq15⟩) hS ?rq15
        case yq15 => (intro w hSw; (try dsimp only at hSw); (try simp only [List.getElem_toArray, List.getElem_cons_zero, List.getElem_cons_succ]); go_simp; try with_reducible rfl)
        (try simp only [List.getElem_toArray, List.getElem_cons_zero, List.getElem_cons_succ, Act.put, List.setIfInBounds_toArray, List.set_cons_zero, List.set_cons_succ])
        refine wpAnyZ_oneG (i := 16) rfl rfl (by kernel_rfl) (fun K hK => ?_)
        (try simp only [List.getElem_toArray, List.getElem_cons_zero, List.getElem_cons_succ])
        go_simp
        refine (HK2.out _ kb).mono ?_
        rintro e w4 ⟨rfl, hb4⟩
        have kb4 := bel_add' kb hb4 kb.size
        clear hb4
        go_simp
        have hS2 := (show w4.cell? ⟨w1.heap.size, 0, none⟩ = some (.slice D1 W.rows.length d1) ∧ w4.cell? ⟨w1.heap.size, 1, none⟩ = some (.slice A1 W.ss.length c1') ∧ w4.cell? ⟨bN, 0, none⟩ = some (.slice DN R.1.rows.length dN) ∧ w4.cell? ⟨bN, 1, none⟩ = some (.slice (some ⟨gN, oN, none⟩) 4 eN) ∧ w4.cell? ⟨cN, 2, none⟩ = some (.int .i64 st) ∧ w4.cell? ⟨gN, oN + i * 5, none⟩ = some (.int .i64 st) from ⟨(kb4.cell (p := ⟨w1.heap.size, 0, none⟩) k0).trans m0, (kb4.cell (p := ⟨w1.heap.size, 1, none⟩) k0).trans m1, (kb4.cell (p := ⟨bN, 0, none⟩) k1).trans m2, (kb4.cell (p := ⟨bN, 1, none⟩) k1).trans m3, (kb4.cell (p := ⟨cN, 2, none⟩) k2).trans m4, (kb4.cell (p := ⟨gN, oN + i * 5, none⟩) k3).trans m5⟩)
        refine hK.out _ _ hS2 ?_
        clear hK K hS
        have hS := hS2
        clear hS2
        (try simp only [List.getElem_toArray, List.getElem_cons_zero, List.getElem_cons_succ, Act.put, List.setIfInBounds_toArray, List.set_cons_zero, List.set_cons_succ])
        refine wpAnyZ_take (i := 17) (v := ?vq17) rfl (by kernel_rfl) (by kernel_rfl) (by kernel_rfl) (by kernel_rfl) (fun _ _ _ h => h) (Or.inl ⟨by rfl, ?yq17⟩) hS ?rq17
        case yq17 => (intro w hSw; (try dsimp only at hSw); (try simp only [List.getElem_toArray, List.getElem_cons_zero, List.getElem_cons_succ]); go_simp; try with_reducible rfl)
        (try simp only [List.getElem_toArray, List.getElem_cons_zero, List.getElem_cons_succ, Act.put, List.setIfInBounds_toArray, List.set_cons_zero, List.set_cons_succ])
        refine wpAnyZ_take (i := 18) (v := ?vq18) rfl (by kernel_rfl) (by kernel_rfl) (by kernel_rfl) (by kernel_rfl) (fun _ _ _ h => h) (Or.inl ⟨by rfl, ?yq18⟩) hS ?rq18
        case yq18 => (intro w hSw; (try dsimp only at hSw); (try simp only [List.getElem_toArray, List.getElem_cons_zero, List.getElem_cons_succ]); go_simp; try with_reducible rfl)
        (try simp only [List.getElem_toArray, List.getElem_cons_zero, List.getElem_cons_succ, Act.put, List.setIfInBounds_toArray, List.set_cons_zero, List.set_cons_succ])
        refine wpAnyZ_take (i := 19) (v := ?vq19) rfl (by kernel_rfl) (by kernel_rfl) (by kernel_rfl) (by kernel_rfl) (fun _ _ _ h => h) (Or.inl ⟨by rfl, ?yq19⟩) hS ?rq19
        case yq19 => (intro w hSw; (try dsimp only at hSw); (try simp only [List.getElem_toArray, List.getElem_cons_zero, List.getElem_cons_succ]); go_simp; try with_reducible rfl)
        (try simp only [List.getElem_toArray, List.getElem_cons_zero, List.getElem_cons_succ, Act.put, List.setIfInBounds_toArray, List.set_cons_zero, List.set_cons_succ])
        refine wpAnyZ_take (i := 20) (v := ?vq20) rfl (by kernel_rfl) (by kernel_rfl) (by kernel_rfl) (by kernel_rfl) (fun _ _ _ h => h) (Or.inl ⟨by rfl, ?yq20⟩) hS ?rq20
        case yq20 => (intro w hSw; (try dsimp only at hSw); (try simp only [List.getElem_toArray, List.getElem_cons_zero, List.getElem_cons_succ]); go_simp; try with_reducible rfl)
        (try simp only [List.getElem_toArray, List.getElem_cons_zero, List.getElem_cons_succ, Act.put, List.setIfInBounds_toArray, List.set_cons_zero, List.set_cons_succ])
        refine wpAnyZ_take (i := 21) (v := ?vq21) rfl (by kernel_rfl) (by kernel_rfl) (by kernel_rfl) (by kernel_rfl) (fun _ _ _ h => h) (Or.inl ⟨by rfl, ?yq21⟩) hS ?rq21
        case yq21 => (intro w hSw; (try dsimp only at hSw); (try simp only [List.getElem_toArray, List.getElem_cons_zero, List.getElem_cons_succ]); go_simp; try with_reducible rfl)
        (try simp only [List.getElem_toArray, List.getElem_cons_zero, List.getElem_cons_succ, Act.put, List.setIfInBounds_toArray, List.set_cons_zero, List.set_cons_succ])
        refine wpAnyZ_take (i := 22) (v := ?vq22) rfl (by kernel_rfl) (by kernel_rfl) (by kernel_rfl) (by kernel_rfl) (fun _ _ _ h => h) (Or.inl ⟨by rfl, ?yq22⟩) hS ?rq22
        case yq22 => (intro w hSw; (try dsimp only at hSw); (try simp only [List.getElem_toArray, List.getElem_cons_zero, List.getElem_cons_succ]); go_simp; try with_reducible rfl)
        (try simp only [List.getElem_toArray, List.getElem_cons_zero, List.getElem_cons_succ, Act.put, List.setIfInBounds_toArray, List.set_cons_zero, List.set_cons_succ])
        refine wpAnyZ_take (i := 23) (v := ?vq23) rfl (by kernel_rfl) (by kernel_rfl) (by kernel_rfl) (by kernel_rfl) (fun _ _ _ h => h) (Or.inl ⟨by rfl, ?yq23⟩) hS ?rq23
        case yq23 => (intro w hSw; (try dsimp only at hSw); (try simp only [List.getElem_toArray, List.getElem_cons_zero, List.getElem_cons_succ]); go_simp; try with_reducible rfl)
        (try simp only [List.getElem_toArray, List.getElem_cons_zero, List.getElem_cons_succ, Act.put, List.setIfInBounds_toArray, List.set_cons_zero, List.set_cons_succ])
        refine wpAnyZ_take (i := 24) (v := ?vq24) rfl (by kernel_rfl) (by kernel_rfl) (by kernel_rfl) (by kernel_rfl) (fun _ _ _ h => h) (Or.inl ⟨by rfl, ?yq24⟩) hS ?rq24
        case yq24 => (intro w hSw; (try dsimp only at hSw); (try simp only [List.getElem_toArray, List.getElem_cons_zero, List.getElem_cons_succ]); go_simp; try with_reducible rfl)
        (try simp only [List.getElem_toArray, List.getElem_cons_zero, List.getElem_cons_succ, Act.put, List.setIfInBounds_toArray, List.set_cons_zero, List.set_cons_succ])
        refine wpAnyZ_take (i := 25) (v := ?vq25) rfl (by kernel_rfl) (by kernel_rfl) (by kernel_rfl) (by kernel_rfl) (fun _ _ _ h => h) (Or.inl ⟨by rfl, ?yq25⟩) hS ?rq25
        case yq25 => (intro w hSw; (try dsimp only at hSw); (try simp only [List.getElem_toArray, List.getElem_cons_zero, List.getElem_cons_succ]); go_simp; try with_reducible rfl)
        (try simp only [List.getElem_toArray, List.getElem_cons_zero, List.getElem_cons_succ, Act.put, List.setIfInBounds_toArray, List.set_cons_zero, List.set_cons_succ])
        refine wpAnyZ_take (i := 26) (v := ?vq26) rfl (by kernel_rfl) (by kernel_rfl) (by kernel_rfl) (by kernel_rfl) (fun _ _ _ h => h) (Or.inl ⟨by rfl, ?yq26⟩) hS ?rq26
        case yq26 => (intro w hSw; (try dsimp only at hSw); (try simp only [List.getElem_toArray, List.getElem_cons_zero, List.getElem_cons_succ]); go_simp; try with_reducible rfl)
        (try simp only [List.getElem_toArray, List.getElem_cons_zero, List.getElem_cons_succ, Act.put, List.setIfInBounds_toArray, List.set_cons_zero, List.set_cons_succ])
        refine wpAnyZ_take (i := 27) (v := ?vq27) rfl (by kernel_rfl) (by kernel_rfl) (by kernel_rfl) (by kernel_rfl) (fun _ _ _ h => h) (Or.inl ⟨by rfl, ?yq27⟩) hS ?rq27
        case yq27 => (intro w hSw; (try dsimp only at hSw); (try simp only [List.getElem_toArray, List.getElem_cons_zero, List.getElem_cons_succ]); go_simp; try with_reducible rfl)
        (try simp only [List.getElem_toArray, List.getElem_cons_zero, List.getElem_cons_succ, Act.put, List.setIfInBounds_toArray, List.set_cons_zero, List.set_cons_succ])
        refine wpAnyZ_take (i := 28) (v := ?vq28) rfl (by kernel_rfl) (by kernel_rfl) (by kernel_rfl) (by kernel_rfl) (fun _ _ _ h => h) (Or.inl ⟨by rfl, ?yq28⟩) hS ?rq28
        case yq28 => (intro w hSw; (try dsimp only at hSw); (try simp only [List.getElem_toArray, List.getElem_cons_zero, List.getElem_cons_succ]); go_simp; try with_reducible rfl)
        (try simp only [List.getElem_toArray, List.getElem_cons_zero, List.getElem_cons_succ, Act.put, List.setIfInBounds_toArray, List.set_cons_zero, List.set_cons_succ])
        refine wpAnyZ_take (i := 29) (v := ?vq29) rfl (by kernel_rfl) (by kernel_rfl) (by kernel_rfl) (by kernel_rfl) (fun _ _ _ h => h) (Or.inl ⟨by rfl, ?yq29⟩) hS ?rq29
        case yq29 => (intro w hSw; (try dsimp only at hSw); (try simp only [List.getElem_toArray, List.getElem_cons_zero, List.getElem_cons_succ]); go_simp; try with_reducible rfl)
        (try simp only [List.getElem_toArray, List.getElem_cons_zero, List.getElem_cons_succ, Act.put, List.setIfInBounds_toArray, List.set_cons_zero, List.set_cons_succ])
        refine wpAnyZ_take (i := 30) (v := ?vq30) rfl (by kernel_rfl) (by kernel_rfl) (by kernel_rfl) (by kernel_rfl) (fun _ _ _ h => h) (Or.inl ⟨by rfl, ?yq30⟩) hS ?rq30
        case yq30 => (intro w hSw; (try dsimp only at hSw); (try simp only [List.getElem_toArray, List.getElem_cons_zero, List.getElem_cons_succ]); go_simp; try with_reducible rfl)
        (try simp only [List.getElem_toArray, List.getElem_cons_zero, List.getElem_cons_succ, Act.put, List.setIfInBounds_toArray, List.set_cons_zero, List.set_cons_succ])
        refine wpAnyZ_take (i := 31) (v := ?vq31) rfl (by kernel_rfl) (by kernel_rfl) (by kernel_rfl) (by kernel_rfl) (fun _ _ _ h => h) (Or.inl ⟨by rfl, ?yq31⟩) hS ?rq31
        case yq31 => (intro w hSw; (try dsimp only at hSw); (try simp only [List.getElem_toArray, List.getElem_cons_zero, List.getElem_cons_succ]); go_simp; try with_reducible rfl)
        (try simp only [List.getElem_toArray, List.getElem_cons_zero, List.getElem_cons_succ, Act.put, List.setIfInBounds_toArray, List.set_cons_zero, List.set_cons_succ])
        refine wpAnyZ_take (i := 32) (v := ?vq32) rfl (by kernel_rfl) (by kernel_rfl) (by kernel_rfl) (by kernel_rfl) (fun _ _ _ h => h) (Or.inl ⟨by rfl, ?yq32⟩) hS ?rq32
        case yq32 => (intro w hSw; (try dsimp only at hSw); (try simp only [List.getElem_toArray, List.getElem_cons_zero, List.getElem_cons_succ]); go_simp; try with_reducible rfl)
        (try simp only [List.getElem_toArray, List.getElem_cons_zero, List.getElem_cons_succ, Act.put, List.setIfInBounds_toArray, List.set_cons_zero, List.set_cons_succ])
        refine wpAnyZ_take (i := 33) (v := ?vq33) rfl (by kernel_rfl) (by kernel_rfl) (by kernel_rfl) (by kernel_rfl) (fun _ _ _ h => h) (Or.inl ⟨by rfl, ?yq33⟩) hS ?rq33
        case yq33 => (intro w hSw; (try dsimp only at hSw); (try simp only [List.getElem_toArray, List.getElem_cons_zero, List.getElem_cons_succ]); go_simp; try with_reducible rfl)
        (try simp only [List.getElem_toArray, List.getElem_cons_zero, List.getElem_cons_succ, Act.put, List.setIfInBounds_toArray, List.set_cons_zero, List.set_cons_succ])
        refine wpAnyZ_take (i := 34) (v := ?vq34) rfl (by kernel_rfl) (by kernel_rfl) (by kernel_rfl) (by kernel_rfl) (fun _ _ _ h => h) (Or.inl ⟨by rfl, ?yq34⟩) hS ?rq34
        case yq34 => (intro w hSw; (try dsimp only at hSw); (try simp only [List.getElem_toArray, List.getElem_cons_zero, List.getElem_cons_succ]); go_simp; try with_reducible rfl)
        (try simp only [List.getElem_toArray, List.getElem_cons_zero, List.getElem_cons_succ, Act.put, List.setIfInBounds_toArray, List.set_cons_zero, List.set_cons_succ])
        refine wpAnyZ_take (i := 35) (v := ?vq35) rfl (by kernel_rfl) (by kernel_rfl) (by kernel_rfl) (by kernel_rfl) (fun _ _ _ h => h) (Or.inl ⟨by rfl, ?yq35⟩) hS ?rq35
        case yq35 => (intro w hSw; (try dsimp only at hSw); (try simp only [List.getElem_toArray, List.getElem_cons_zero, List.getElem_cons_succ]); go_simp; try with_reducible rfl)
        (try simp only [List.getElem_toArray, List.getElem_cons_zero, List.getElem_cons_succ, Act.put, List.setIfInBounds_toArray, List.set_cons_zero, List.set_cons_succ])
        refine wpAnyZ_last rfl rfl (by kernel_rfl) (by kernel_rfl) (fun K hK => ?_)
        (try simp only [List.getElem_toArray, List.getElem_cons_zero, List.getElem_cons_succ])
        go_simp
        refine hK.out _ _ ?_
        clear hK K
        (try simp only [List.getElem_toArray, List.getElem_cons_zero, List.getElem_cons_succ, Act.put, List.setIfInBounds_toArray, List.set_cons_zero, List.set_cons_succ])
        go_wp2
        go_ret
        exact ⟨rfl, bel_add' HBA.out kb4 HBA.out.size⟩
end Go.Proofs.YtpbaobmegomfpabDoor

