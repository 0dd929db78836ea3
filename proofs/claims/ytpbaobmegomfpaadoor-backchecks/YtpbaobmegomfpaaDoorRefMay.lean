/-
  Walks of the reference's isHeld and allRows.
-/
import Derived.Test.YtpbaobmegomfpaaDoorRefPlus
import Derived.Test.YtpbaobmegomfpaaDoorRefAt
import Derived.Test.YtpbaobmegomfpaaDoorBackM3
namespace Go.Proofs.YtpbaobmegomfpaaDoor
open Go.RowKit
set_option linter.unusedVariables false
set_option maxRecDepth 100000

set_option maxHeartbeats 1000000 in
theorem isHeld_any (r s : Value) (W : Wd) (me : Int) (key : ByteArray) (w : World) (hW : Wld w w.heap.size r s W) :
    Calls Tryd.prog 44 #[.agg #[r, s], .int .i64 me, .string key] w fun e w' => e = .returned (.bool (heldB W.ss me key)) ∧ Below w.heap.size w w' := by
  obtain ⟨hr, hs⟩ := hW
  obtain ⟨A, c, rfl, hc⟩ := hs.form
  obtain ⟨D, d, rfl, hd⟩ := hr.form
  have hby := hs.bytes
  have HS := Lib.hid hs
  clear hs hr
  have b0 : Below w.heap.size w (w.alloc (.cells #[.slice D W.rows.length d, .slice A W.ss.length c] 49)) := (Below.refl _ _).alloc (Nat.le_refl _) _
  go_enter Tryd.func44, Tryd.ntmps44
  go_wp2
  go_loop [7] (fun i => ∃ k : Nat, k ≤ W.ss.length ∧ i = .int .i64 k ∧ Hid (∀ j (hj : j < W.ss.length), j < k → (atL W.ss[j].wr key).isSome = true → (j : Int) = me)) (fun i => W.ss.length - (intOf i).toNat)
  case atStart => exact ⟨0, by omega, rfl, fun j hj h => by omega⟩
  case round =>
    obtain ⟨k, hk, rfl, hall⟩ := hrel
    by_cases hlt : k < W.ss.length
    · obtain ⟨b, off, v1, v2, v3, v4, rfl, hb, hses⟩ := HS.out.pt hlt
      have l4 := hses.l4
      obtain ⟨A4, c4, rfl, _⟩ := l4.form
      have c4' := hses.c4
      have HL := Lib.hid l4
      clear l4 hses
      go_wp2_with fail
      refine (at_any _ _ key _ _ (HL.out.step b0)).mono ?_
      cases ha : atL W.ss[k].wr key with
      | none =>
        rintro e w1 ⟨rfl, rfl⟩
        unfold atV
        have HA := Lib.hid ha
        clear ha
        go_wp2
        go_round
        case rel =>
          refine ⟨k + 1, by omega, by go_num, fun j hj hjk hs => ?_⟩
          by_cases e : j = k
          · subst e; rw [HA.out] at hs; cases hs
          · exact hall.out j hj (by omega) hs
        case measure => simp [intOf]; omega
      | some x =>
        rintro e w1 ⟨rfl, rfl⟩
        unfold atV
        have HA := Lib.hid ha
        clear ha
        by_cases hme : (k : Int) = me
        · have h1 : ((k : Int) != me) = false := by simp [hme]
          have HM := Lib.hid hme
          clear hme
          go_wp2
          go_round
          case rel =>
            refine ⟨k + 1, by omega, by go_num, fun j hj hjk hs => ?_⟩
            by_cases e : j = k
            · subst e; exact HM.out
            · exact hall.out j hj (by omega) hs
          case measure => simp [intOf]; omega
        · have h1 : ((k : Int) != me) = true := bne_iff_ne.2 hme
          have HP := Lib.hid (heldB_yes (me := me) (key := key) hlt (by rw [HA.out]; rfl) hme)
          clear hme
          go_wp2
          go_ret
          exact ⟨by rw [HP.out]; rfl, b0⟩
    · have HP := Lib.hid (heldB_no (fun j hj => hall.out j hj (by omega)))
      go_wp2
      go_ret
      exact ⟨by rw [HP.out]; rfl, b0⟩

theorem allF_nil (out : PL) : allF out [] = out := rfl
theorem allF_cons (out : PL) (p : ByteArray × ByteArray) (l : PL) : allF out (p :: l) = allF (plusL out p.1 ⟨#[]⟩) l := rfl
theorem allF_append (out l m : PL) : allF out (l ++ m) = allF (allF out l) m := by unfold allF; rw [List.foldl_append]
/-- what allRows has gathered: the rest is still to come -/
def AllRel (w : World) (W : Wd) (rest : PL) (cnt : Nat) (v : Value) (wr : World) : Prop :=
  ∃ out, allF out rest = allL W ∧ out.length ≤ 100 + cnt ∧ (∀ p ∈ out, p.1.size ≤ 140737488351232 ∧ p.2.size ≤ 140737488351232) ∧ wr.ownsRow w.heap.size 81 2 v out.length (flat out) ∧ Below w.heap.size w wr
def AllBox (w : World) (r s : Value) (wr : World) : Prop := RowTo wr w.heap.size 49 2 [r, s]
def restOf (ss : List Sess) (i : Nat) : PL := (ss.drop i).flatMap (·.wr)
theorem restOf_step {ss : List Sess} {i : Nat} (h : i < ss.length) : restOf ss i = ss[i].wr ++ restOf ss (i + 1) := by
  unfold restOf; rw [List.drop_eq_getElem_cons h]; rfl
theorem restOf_end {ss : List Sess} {i : Nat} (h : ss.length ≤ i) : restOf ss i = [] := by
  unfold restOf; rw [List.drop_eq_nil_of_le h]; rfl

set_option maxHeartbeats 2000000 in
theorem allRows_any (r s : Value) (W : Wd) (w : World) (hW : Wld w w.heap.size r s W) (hr100 : W.rows.length ≤ 100) (h8 : W.ss.length ≤ 8) (hw100 : ∀ i (hi : i < W.ss.length), W.ss[i].wr.length ≤ 100) :
    Calls Tryd.prog 45 #[.agg #[r, s]] w fun e w' => ∃ v', e = .returned v' ∧ w'.ownsRow w.heap.size 81 2 v' (allL W).length (flat (allL W)) ∧ Below w.heap.size w w' := by
  obtain ⟨hr, hs⟩ := hW
  obtain ⟨A, c, rfl, hc⟩ := hs.form
  obtain ⟨D, d, rfl, hd⟩ := hr.form
  have hby := hs.bytes
  have HS := Lib.hid hs
  have HR := Lib.hid hr
  have HN := Lib.hid hw100
  clear hs hr hw100
  have b0 : Below w.heap.size w (w.alloc (.cells #[.slice D W.rows.length d, .slice A W.ss.length c] 49)) := (Below.refl _ _).alloc (Nat.le_refl _) _
  have HX := Lib.hid (RowTo.whole w #[.slice D W.rows.length d, .slice A W.ss.length c] 49)
  go_enter Tryd.func45, Tryd.ntmps45
  go_wp2_with fail
  refine (pairs_any _ W.rows _ (HR.out.step b0)).mono ?_
  rintro e w1 ⟨v1, rfl, ho1, hb1⟩
  have HX1 := Lib.hid (HX.out.below hb1 HX.out.lt)
  have hown0 : Hid (w1.ownsRow w.heap.size 81 2 v1 W.rows.length (flat W.rows)) := ownsRow_less ho1 (by simp)
  have bel1 := Lib.hid (bel_add' b0 hb1 b0.size)
  clear ho1 hb1
  go_wp2
  go_loopw [3, 4] (fun o i wr => ∃ k : Nat, k ≤ W.ss.length ∧ i = .int .i64 k ∧ AllBox w (.slice D W.rows.length d) (.slice A W.ss.length c) wr ∧ AllRel w W (restOf W.ss k) (k * 100) o wr) (fun _ i _ => W.ss.length - (intOf i).toNat)
  case atStart => exact ⟨0, by omega, rfl, HX1.out, W.rows, rfl, by omega, HR.out.sizes, hown0.out, bel1.out⟩
  case round =>
    clear hown0 bel1 HX1 HX b0
    obtain ⟨i, hi, rfl, hbox, out, hout, hol, hosz, hown, bel⟩ := hrel
    have x0 := hbox.cell (j := 0) (by simp)
    have x1 := hbox.cell (j := 1) (by simp)
    simp only [List.getElem_cons_zero, List.getElem_cons_succ] at x0 x1
    have hxl := hbox.lt
    by_cases hlt : i < W.ss.length
    · obtain ⟨b, off, v1, v2, v3, v4, rfl, hb, hses⟩ := HS.out.pt hlt
      have l4 := hses.l4
      obtain ⟨A4, c4, rfl, _⟩ := l4.form
      have c4' := hses.c4
      have h100 := HN.out i hlt
      have hb4 := l4.bytes
      have HL := Lib.hid l4
      have HO := Lib.hid (show allF out (W.ss[i].wr.drop 0 ++ restOf W.ss (i + 1)) = allL W by rw [List.drop_zero, ← restOf_step hlt]; exact hout)
      have HZ := Lib.hid hosz
      have HW := Lib.hid hown
      have HB := Lib.hid bel
      have HX := Lib.hid hbox
      clear l4 hses hout hosz hown bel hbox
      generalize hsk : W.ss[i].wr = l at *
      have HK := Lib.hid hsk
      clear hsk
      go_wp2
      go_loopw [3, 5] (fun o j wr => ∃ k : Nat, k ≤ l.length ∧ j = .int .i64 k ∧ AllBox w (.slice D W.rows.length d) (.slice (some ⟨b, off, none⟩) W.ss.length c) wr ∧ AllRel w W (l.drop k ++ restOf W.ss (i + 1)) (i * 100 + k) o wr) (fun _ j _ => l.length - (intOf j).toNat)
      case atStart => exact ⟨0, by omega, rfl, HX.out, out, HO.out, by omega, HZ.out, HW.out, HB.out⟩
      case round =>
        clear HX HW HB HO HZ x0 x1 hxl hol
        obtain ⟨k, hk, rfl, hbox, out, hout, hol, hosz, hown, bel⟩ := hrel
        have x0 := hbox.cell (j := 0) (by simp)
        have x1 := hbox.cell (j := 1) (by simp)
        simp only [List.getElem_cons_zero, List.getElem_cons_succ] at x0 x1
        have hxl := hbox.lt
        have y4 := (bel.cell (p := ⟨b, off + i * 5 + 4, none⟩) hb).trans c4'
        by_cases hlk : k < l.length
        · obtain ⟨b', off', rfl, hb', d0, d1⟩ := HL.out.pt hlk
          have z0 := (bel.cell (p := ⟨b', off' + k * 2, none⟩) hb').trans d0
          obtain ⟨zk, _⟩ := HL.out.key hlk
          have HD := Lib.hid (show allF (plusL out l[k].1 ⟨#[]⟩) (l.drop (k + 1) ++ restOf W.ss (i + 1)) = allL W by rw [← hout, List.drop_eq_getElem_cons hlk]; rfl)
          have hpl := plusL_len out l[k].1 ⟨#[]⟩
          have HM := Lib.hid (fun q (hq : q ∈ plusL out l[k].1 ⟨#[]⟩) => plusL_mem hq)
          have HZ := Lib.hid hosz
          have HX := Lib.hid hbox
          have HB := Lib.hid bel
          have HW := Lib.hid (own_lst hown (by omega) hosz)
          clear hout hosz hown bel hbox
          go_wp2_with fail
          refine (plus_any _ out l[k].1 _ _ HW.out).mono ?_
          rintro e w2 ⟨v2, rfl, ho2, hb2⟩
          have HW2 := Lib.hid (ownsRow_less ho2 HB.out.size)
          have HB2 := Lib.hid (bel_add' HB.out hb2 HB.out.size)
          have HX2 := Lib.hid (HX.out.below hb2 HX.out.lt)
          clear ho2 hb2
          go_wp2
          go_roundw
          case rel =>
            refine ⟨k + 1, by omega, by go_num, HX2.out, plusL out l[k].1 ⟨#[]⟩, HD.out, by omega, fun q hq => ?_, HW2.out, HB2.out⟩
            rcases HM.out q hq with rfl | hq
            · exact ⟨zk, Nat.zero_le _⟩
            · exact HZ.out q hq
          case measure => simp [intOf]; omega
        · have HD := Lib.hid (show allF out (restOf W.ss (i + 1)) = allL W by rw [← hout, List.drop_eq_nil_of_le (by omega)]; rfl)
          have HZ := Lib.hid hosz
          have HX := Lib.hid hbox
          have HB := Lib.hid bel
          have HW := Lib.hid hown
          clear hout hosz hown bel hbox
          go_wp2
          go_roundw
          case rel => exact ⟨i + 1, by omega, by go_num, HX.out, out, HD.out, by omega, HZ.out, HW.out, HB.out⟩
          case measure => simp [intOf]; omega
    · have HD := Lib.hid (show out = allL W by rw [← hout, restOf_end (by omega)]; rfl)
      have HB := Lib.hid bel
      have HW := Lib.hid hown
      clear hout hosz hown bel hbox
      go_wp2
      go_ret
      exact ⟨_, rfl, by rw [← HD.out]; exact HW.out, HB.out⟩
end Go.Proofs.YtpbaobmegomfpaaDoor
