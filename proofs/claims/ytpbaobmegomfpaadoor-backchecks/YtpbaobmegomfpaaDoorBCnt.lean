/-
  Walks of back.countWriters.
-/
import Derived.Test.YtpbaobmegomfpaaDoorBackMap
import Derived.Test.YtpbaobmegomfpaaDoorRefMay
import Derived.Maps.Own
import Derived.Maps.OwnOps
import Derived.Maps.OwnSet
import Derived.WalkArith
namespace Go.Proofs.YtpbaobmegomfpaaDoor
open Go.RowKit Go.Maps Go.WideMaps
set_option linter.unusedVariables false
set_option linter.unusedSimpArgs false
set_option maxRecDepth 100000

theorem strLaw : Keyed Tryd.prog 9 := string_keyed Tryd.underlying9
theorem zeroInt (w : World) : (zeroValue 3).run Tryd.prog w = .ok (.int .i64 0) w := by kernel_rfl
theorem klKey {s : ByteArray} (h : s.size ≤ 140737488351232) : keyOf Tryd.prog 9 (.string s) = some (kl s) := keyOf_string_mk Tryd.underlying9 (by unfold maxLen; omega)
theorem lit_inj {a b : Int} (h : (DataW.lit (.int .i64 a) : DataW Unit) = .lit (.int .i64 b)) : a = b := by simpa using h
/-- the map after the first k rows -/
def RowsRel (w : World) (W : Wd) (r s : Value) (k : Nat) (wr : World) : Prop :=
  ∃ D : DataW Unit, wr.ownsMap Tryd.prog 9 (plainElem Tryd.prog 3) (w.heap.size + 1) k D ∧ MapOk D (W.rows.take k) (fun _ => 0) ∧ AllBox w r s wr ∧ Below w.heap.size w wr
/-- the map where the rest of the writes is still to come -/
def CntRel (w : World) (W : Wd) (r s : Value) (rest : PL) (n : Nat) (wr : World) : Prop :=
  ∃ (D : DataW Unit) (R : PL) (cnt : ByteArray → Nat), wr.ownsMap Tryd.prog 9 (plainElem Tryd.prog 3) (w.heap.size + 1) n D ∧ MapOk D R cnt ∧ risingB R = true ∧ allF R rest = allL W ∧
    (∀ key, cnt key + cntL rest key = cntL (W.ss.flatMap (·.wr)) key) ∧ (∀ key, cnt key ≤ n) ∧ AllBox w r s wr ∧ Below w.heap.size w wr
theorem box_grown {w wr w1 : World} {r s : Value} (h : AllBox w r s wr) (hg : wr.grownBy w1 (some (w.heap.size + 1))) : AllBox w r s w1 := h.same (hg.block _ h.lt (by simp))
theorem bel_grown {w wr w1 : World} (h : Below w.heap.size w wr) (hg : wr.grownBy w1 (some (w.heap.size + 1))) : Below w.heap.size w w1 := h.grown hg h.size (fun k hk => by injection hk with hk; omega)

def CountPost (w : World) (W : Wd) (e : Ending) (w' : World) : Prop :=
  ∃ (b n : Nat) (D : DataW Unit), e = .returned (.map (some b)) ∧ w'.ownsMap Tryd.prog 9 (plainElem Tryd.prog 3) b n D ∧ MapOk D (allL W) (cntL (W.ss.flatMap (·.wr))) ∧ n ≤ 1000 ∧ w.heap.size ≤ b ∧ Below w.heap.size w w'

set_option maxHeartbeats 4000000 in
theorem countWriters_any (r s : Value) (W : Wd) (w : World) (hW : Wld w w.heap.size r s W) (hr100 : W.rows.length ≤ 100) (hrise : risingB W.rows = true) (h8 : W.ss.length ≤ 8) (hw100 : ∀ i (hi : i < W.ss.length), W.ss[i].wr.length ≤ 100) :
    Calls Tryd.prog 58 #[.agg #[r, s]] w (CountPost w W) := by
  obtain ⟨hr, hs⟩ := hW
  obtain ⟨A, c, rfl, hc⟩ := hs.form
  obtain ⟨D, d, rfl, hd⟩ := hr.form
  have hby := hs.bytes
  have HS := Lib.hid hs
  have HR := Lib.hid hr
  have HN := Lib.hid hw100
  have HI := Lib.hid hrise
  clear hs hr hw100 hrise
  have hmm := @run_makeMap Tryd.prog
  go_enter Tryd.func58, Tryd.ntmps58
  go_wp2
  clear hmm
  go_loopw [14] (fun i wr => ∃ k : Nat, k ≤ W.rows.length ∧ i = .int .i64 k ∧ RowsRel w W (.slice D W.rows.length d) (.slice A W.ss.length c) k wr) (fun i _ => W.rows.length - (intOf i).toNat)
  case atStart =>
    refine ⟨0, by omega, rfl, .map [], ?_, mapOk_empty, (RowTo.whole w #[.slice D W.rows.length d, .slice A W.ss.length c] 49).alloc _, ?_⟩
    · have := World.ownsMap_made (H := Unit) (w.alloc (.cells #[.slice D W.rows.length d, .slice A W.ss.length c] 49)) Tryd.prog 9 (plainElem Tryd.prog 3)
      simpa using this
    · repeat' (first | exact Below.refl _ _ | assumption | with_reducible refine below_drewN ?_ _ | with_reducible refine Below.drew ?_ | with_reducible refine Below.setCell ?_ ?_ _ | with_reducible refine Below.alloc ?_ ?_ _ | (simp; done) | (simp; omega))
  case round =>
    obtain ⟨k, hk, rfl, M, hown, hmap, hbox, bel⟩ := hrel
    by_cases hlt : k < W.rows.length
    · obtain ⟨b, off, rfl, hb, c0, c1⟩ := HR.out.pt hlt
      obtain ⟨z0, z1⟩ := HR.out.key hlt
      have d0 := (bel.cell (p := ⟨b, off + k * 2, none⟩) hb).trans c0
      have d1 := (bel.cell (p := ⟨b, off + k * 2 + 1, none⟩) hb).trans c1
      have hkey := klKey z0
      have HP := Lib.hid (mapOk_put (k := W.rows[k].1) (v := W.rows[k].2) (c := 0) hmap (hown.tidy strLaw) (rising_take HI.out k) trivial)
      have HT := Lib.hid (ins_take HI.out hlt)
      have HO := Lib.hid hown
      have HX := Lib.hid hbox
      have HB := Lib.hid bel
      clear hown hmap hbox bel c0 c1
      go_wp2_with (first
        | (at_mapUpdate; refine wpList_mapUpdate_own _ rfl _ _ _ 92 rfl 9 3 strLaw Tryd.underlying92 _ (w.heap.size + 1) k _ rfl (HO.out.alloc _) (by unfold maxLen; omega) _ _ _ rfl rfl hkey _ [] (plainElem_int Tryd.underlying3 (WalkArith.wf_i64 (by omega))) ?_; intro w1 hown1 hgrow1)
        | go_in)
      have HO1 := Lib.hid hown1
      have hg := (World.grownBy_alloc wr (.cells #[.string W.rows[k].1, .string W.rows[k].2] 81) (some (w.heap.size + 1))).trans hgrow1
      have HX1 := Lib.hid (box_grown HX.out hg)
      have HB1 := Lib.hid (bel_grown HB.out hg)
      clear hown1 hgrow1 hg
      go_roundw
      case rel =>
        refine ⟨k + 1, by omega, by go_num, _, HO1.out, ?_, HX1.out, HB1.out⟩
        rw [← HT.out]
        exact HP.out.cnt (fun key => by split <;> rfl)
      case measure => simp [intOf]; omega
    · obtain rfl : k = W.rows.length := by omega
      have x1 := hbox.cell (j := 1) (by simp)
      simp only [List.getElem_cons_zero, List.getElem_cons_succ] at x1
      rw [List.take_length] at hmap
      have HO := Lib.hid (hown.mono hr100)
      have HM := Lib.hid hmap
      have HX := Lib.hid hbox
      have HB := Lib.hid bel
      clear hown hmap hbox bel
      go_wp2
      go_loopw [25] (fun i wr => ∃ k : Nat, k ≤ W.ss.length ∧ i = .int .i64 k ∧ CntRel w W (.slice D W.rows.length d) (.slice A W.ss.length c) (restOf W.ss k) (100 + k * 100) wr) (fun i _ => W.ss.length - (intOf i).toNat)
      case atStart => exact ⟨0, by omega, rfl, M, W.rows, _, HO.out, HM.out, HI.out, rfl, fun key => by rw [Nat.zero_add]; rfl, fun key => Nat.zero_le _, HX.out, HB.out⟩
      case round =>
        clear HO HM HX HB x1
        obtain ⟨i, hi, rfl, M, R, cnt, hown, hmap, hrR, hall, hcnt, hcb, hbox, bel⟩ := hrel
        by_cases hlt : i < W.ss.length
        · obtain ⟨b, off, v1, v2, v3, v4, rfl, hb, hses⟩ := HS.out.pt hlt
          have h100 := HN.out i hlt
          have hall' : allF R (W.ss[i].wr.drop 0 ++ restOf W.ss (i + 1)) = allL W := by rw [List.drop_zero, ← restOf_step hlt]; exact hall
          have hcnt' : ∀ key, cnt key + cntL (W.ss[i].wr.drop 0 ++ restOf W.ss (i + 1)) key = cntL (W.ss.flatMap (·.wr)) key := fun key => by rw [List.drop_zero, ← restOf_step hlt]; exact hcnt key
          generalize hsk : W.ss[i] = s at *
          obtain ⟨d0, d1, d2, d3, d4, l1, l2, l3, l4⟩ := hses.keep (w' := wr) hb (Nat.le_refl _) fun p hp => bel.cell hp
          obtain ⟨A1, c1, rfl, _⟩ := l1.form
          obtain ⟨A2, c2, rfl, _⟩ := l2.form
          obtain ⟨A3, c3, rfl, _⟩ := l3.form
          obtain ⟨A4, c4, rfl, _⟩ := l4.form
          have hb4 := l4.bytes
          have HL := Lib.hid hses.l4
          have HO := Lib.hid (hown.alloc (.cells #[.int .i64 s.st, .slice A1 s.set.length c1, .slice A2 s.prep.length c2, .slice A3 s.sav.length c3, .slice A4 s.wr.length c4] 77))
          have HM := Lib.hid hmap
          have HRR := Lib.hid hrR
          have HA := Lib.hid hall'
          have HC := Lib.hid hcnt'
          have HCB := Lib.hid hcb
          have HX := Lib.hid (RowTo.alloc hbox (.cells #[.int .i64 s.st, .slice A1 s.set.length c1, .slice A2 s.prep.length c2, .slice A3 s.sav.length c3, .slice A4 s.wr.length c4] 77))
          have HB := Lib.hid (bel.alloc bel.size (.cells #[.int .i64 s.st, .slice A1 s.set.length c1, .slice A2 s.prep.length c2, .slice A3 s.sav.length c3, .slice A4 s.wr.length c4] 77))
          clear hown hmap hrR hall hall' hcnt hcnt' hcb hbox bel hses hsk l1 l2 l3 l4
          go_wp2
          clear d0 d1 d2 d3 d4
          go_loopw [32] (fun j wr => ∃ k : Nat, k ≤ s.wr.length ∧ j = .int .i64 k ∧ CntRel w W (.slice D W.rows.length d) (.slice (some ⟨b, off, none⟩) W.ss.length c) (s.wr.drop k ++ restOf W.ss (i + 1)) (100 + i * 100 + k) wr) (fun j _ => s.wr.length - (intOf j).toNat)
          case atStart => exact ⟨0, by omega, rfl, M, R, cnt, HO.out, HM.out, HRR.out, HA.out, HC.out, HCB.out, HX.out, HB.out⟩
          case round =>
            clear HO HM HRR HA HC HCB HX HB
            obtain ⟨k, hk, rfl, M, R, cnt, hown, hmap, hrR, hall, hcnt, hcb, hbox, bel⟩ := hrel
            by_cases hlk : k < s.wr.length
            · obtain ⟨b', off', rfl, hb', m0, m1⟩ := HL.out.pt hlk
              obtain ⟨z0, z1⟩ := HL.out.key hlk
              have d0 := (bel.cell (p := ⟨b', off' + k * 2, none⟩) hb').trans m0
              have d1 := (bel.cell (p := ⟨b', off' + k * 2 + 1, none⟩) hb').trans m1
              have hkey := klKey z0
              have hce := hcb s.wr[k].1
              have HD := Lib.hid (List.drop_eq_getElem_cons hlk)
              have HP := Lib.hid (fun cc => mapOk_put (k := s.wr[k].1) (v := ⟨#[]⟩) (c := cc) hmap (hown.tidy strLaw) hrR trivial)
              have HRR := Lib.hid (ins_rising (k := s.wr[k].1) (v := ⟨#[]⟩) hrR)
              have HPI := Lib.hid (plus_ins (k := s.wr[k].1) (v := ⟨#[]⟩) hrR)
              have HAT := Lib.hid (hmap.at_ s.wr[k].1)
              have HO := Lib.hid hown
              have HA := Lib.hid hall
              have HC := Lib.hid hcnt
              have HCB := Lib.hid hcb
              have HX := Lib.hid hbox
              have HB := Lib.hid bel
              clear hown hmap hrR hall hcnt hcb hbox bel m0 m1
              go_wp2_with (first
                | (at_lookup; refine wpList_lookup_own_int _ rfl _ _ 92 rfl 9 3 .i64 strLaw Tryd.underlying92 Tryd.underlying3 (zeroInt _) (w.heap.size + 1) (100 + i * 100 + k) _ rfl (HO.out.alloc _) _ _ rfl hkey ?_; intro q hat hwq; obtain rfl : q = (cnt s.wr[k].1 : Int) := (lit_inj (HAT.out.symm.trans hat)).symm; clear hat hwq)
                | (at_mapUpdate; refine wpList_mapUpdate_own _ rfl _ _ _ 92 rfl 9 3 strLaw Tryd.underlying92 _ (w.heap.size + 1) (100 + i * 100 + k) _ rfl (HO.out.alloc _) (by unfold maxLen; omega) _ _ _ rfl rfl hkey _ [] (plainElem_int Tryd.underlying3 (WalkArith.wf_i64 (by omega))) ?_; intro w1 hown1 hgrow1)
                | go_in)
              have HO1 := Lib.hid hown1
              have hg := (World.grownBy_alloc wr (.cells #[.string s.wr[k].1, .string s.wr[k].2] 81) (some (w.heap.size + 1))).trans hgrow1
              have HX1 := Lib.hid (box_grown HX.out hg)
              have HB1 := Lib.hid (bel_grown HB.out hg)
              clear hown1 hgrow1 hg
              go_roundw
              case rel =>
                refine ⟨k + 1, by omega, by go_num, _, insL R s.wr[k].1 ⟨#[]⟩, _, HO1.out, by have := HP.out (cnt s.wr[k].1 + 1); simpa using this, HRR.out, ?_, fun key => ?_, fun key => ?_, HX1.out, HB1.out⟩
                · rw [← HA.out, HD.out, List.cons_append, allF_cons, HPI.out]
                · rw [← HC.out key, HD.out, List.cons_append, cntL_cons]
                  cases e : eqB s.wr[k].1 key
                  · simp
                  · rw [eqB_iff.1 e]; simp; omega
                · have := HCB.out key
                  split <;> omega
              case measure => simp [intOf]; omega
            · rw [List.drop_eq_nil_of_le (by omega), List.nil_append] at hall hcnt
              have HO := Lib.hid (hown.mono (n' := 100 + (i + 1) * 100) (by omega))
              have HM := Lib.hid hmap
              have HRR := Lib.hid hrR
              have HA := Lib.hid hall
              have HC := Lib.hid hcnt
              have HCB := Lib.hid (fun key => Nat.le_trans (hcb key) (show 100 + i * 100 + k ≤ 100 + (i + 1) * 100 by omega))
              have HX := Lib.hid hbox
              have HB := Lib.hid bel
              clear hown hmap hrR hall hcnt hcb hbox bel
              go_wp2
              go_roundw
              case rel => exact ⟨i + 1, by omega, by go_num, M, R, cnt, HO.out, HM.out, HRR.out, HA.out, HC.out, HCB.out, HX.out, HB.out⟩
              case measure => simp [intOf]; omega
        · rw [restOf_end (by omega)] at hall hcnt
          have HM := Lib.hid (hmap.cnt (cnt' := cntL (W.ss.flatMap (·.wr))) (fun key => by have h := hcnt key; rw [cntL_nil] at h; exact h))
          have HA := Lib.hid (show R = allL W from hall)
          have HO := Lib.hid hown
          have HB := Lib.hid bel
          clear hown hmap hrR hall hcnt hcb hbox bel
          go_wp2
          go_ret
          exact ⟨w.heap.size + 1, _, M, rfl, HO.out, by rw [← HA.out]; exact HM.out, by omega, by omega, HB.out⟩
end Go.Proofs.YtpbaobmegomfpaaDoor
