/-
  Walks of back.rowsFit.
-/
import Derived.Test.YtpbaobmegomfpaaDoorBCnt
import Derived.Test.YtpbaobmegomfpaaDoorBackM4
import Derived.Maps.RangeWalk
namespace Go.Proofs.YtpbaobmegomfpaaDoor
open Go.RowKit Go.Maps Go.WideMaps
set_option linter.unusedVariables false
set_option linter.unusedSimpArgs false
set_option maxRecDepth 100000

theorem key_string {key : Value} {l : Lit} (h : keyOf Tryd.prog 9 key = some l) : ∃ s, key = .string s ∧ l = kl s := by
  cases key <;> simp [keyOf, Tryd.underlying9, mapKey] at h
  exact ⟨_, rfl, h.2.symm⟩
/-- what has come had at most one writer -/
def FitsRel (w : World) (W : Wd) (b r n : Nat) (D : DataW Unit) (wr : World) : Prop :=
  ∃ left cnt, wr.ranges Tryd.prog 9 (plainElem Tryd.prog 3) b r n D left cnt ∧ (∀ key, Maps.has D (kl key) = true → left (kl key) = true ∨ cntL (W.ss.flatMap (·.wr)) key ≤ 1) ∧ Below w.heap.size w wr

set_option maxHeartbeats 4000000 in
theorem rowsFit_any (r s : Value) (W : Wd) (w : World) (hW : Wld w w.heap.size r s W) (hr100 : W.rows.length ≤ 100) (hrise : risingB W.rows = true) (h8 : W.ss.length ≤ 8) (hw100 : ∀ i (hi : i < W.ss.length), W.ss[i].wr.length ≤ 100) :
    Calls Tryd.prog 42 #[.agg #[r, s]] w fun e w' => e = .returned (.bool (cntOk W && decide ((allL W).length ≤ 100))) ∧ Below w.heap.size w w' := by
  have HWW := Lib.hid hW
  obtain ⟨A, c, rfl, hc⟩ := hW.sess.form
  obtain ⟨D, d, rfl, hd⟩ := hW.rows.form
  have HN := Lib.hid hw100
  have HI := Lib.hid hrise
  clear hw100 hrise hW
  have b0 : Below w.heap.size w (w.alloc (.cells #[.slice D W.rows.length d, .slice A W.ss.length c] 49)) := (Below.refl _ _).alloc (Nat.le_refl _) _
  go_enter Tryd.func42, Tryd.ntmps42
  go_wp2_with fail
  refine (countWriters_any _ _ W _ (HWW.out.step b0) hr100 HI.out h8 HN.out).mono ?_
  rintro e w1 ⟨b, n, M, rfl, hown, hmap, hn, hb, hb1⟩
  have HB := Lib.hid (bel_add' b0 hb1 b0.size)
  have HM := Lib.hid hmap
  have HO := Lib.hid hown
  have hbw : w.heap.size ≤ b := by have := b0.size; omega
  clear hown hmap hb1
  go_wp2_with (first | (at_range; refine wpList_range_own _ rfl _ 92 rfl 9 3 strLaw Tryd.underlying92 _ b n M rfl HO.out ?_; intro w0 hrg0 hg0 hs0) | go_in)
  go_frame
  have HR0 := Lib.hid hrg0
  have HB0 := Lib.hid (HB.out.grown hg0 HB.out.size (fun k hk => by cases hk))
  have hrr : w.heap.size ≤ w1.heap.size := HB.out.size
  clear hrg0 hg0 hs0 HO
  go_loopw [5] (fun _ wr => FitsRel w W b w1.heap.size n M wr) (fun _ wr => wr.rangeLeft b w1.heap.size)
  case atStart => exact ⟨_, _, HR0.out, fun key h => .inl h, HB0.out⟩
  case round =>
    clear HR0 HB0
    obtain ⟨left, cnt, hrg, hok, bel⟩ := hrel
    have HG := Lib.hid hrg
    have HK := Lib.hid hok
    have HB1 := Lib.hid bel
    clear hrg hok bel
    go_wp2_with (first | (at_next; refine wpList_next_ranges _ rfl _ rfl 9 strLaw (plainElem Tryd.prog 3) Value.string (Value.int .i64) (fun key l h => (by obtain ⟨x, hx, _⟩ := key_string h; exact ⟨x, hx⟩)) (fun v y hv => (by obtain ⟨q, hq, _⟩ := plainElem_int_inv Tryd.underlying3 hv; exact ⟨q, hq⟩)) b w1.heap.size n _ _ _ rfl HG.out ?_ ?_) | go_in)
    · intro hc0 hl0
      have HF := Lib.hid (cntOk_yes (W := W) (fun key => by
        cases hh : Maps.has M (kl key)
        · have h1 := HM.out.at_ key
          rw [atKey_of_not_has hh] at h1
          have := lit_inj h1
          omega
        · rcases HK.out key hh with h | h
          · rw [hl0] at h; cases h
          · exact h))
      have HZ := Lib.hid HM.out.size
      clear hc0 hl0
      go_wp2_with (first | (at_len; refine wpList_len_own _ rfl _ 92 rfl 9 3 Tryd.underlying92 _ b n M rfl HG.out.owns ?_) | go_in)
      go_ret
      refine ⟨?_, HB1.out⟩
      rw [HF.out, HZ.out, Bool.true_and]
      simp
      omega
    · intro x q l y yp w2 cnt2 hkey hlx hval hat hrg2 hlt2 hg2 hs2 hen
      obtain ⟨x', ex, rfl⟩ := key_string hkey
      obtain rfl : x = x' := by injection ex
      obtain ⟨q', eq', hy, _⟩ := plainElem_int_inv Tryd.underlying3 hval
      obtain rfl : q = q' := by injection eq'
      have hq : q = (cntL (W.ss.flatMap (·.wr)) x : Int) := by
        have h1 := hat (.lit (.int .i64 0))
        rw [HM.out.at_ x, (Prod.mk.inj hy).1] at h1
        exact (lit_inj h1).symm
      subst hq
      have HH := Lib.hid hrg2
      have HB2 := Lib.hid (HB1.out.grown hg2 HB1.out.size (fun k hk => by injection hk with hk; omega))
      have HLQ := Lib.hid (show wr.rangeLeft b w1.heap.size = cnt from HG.out.left_eq)
      clear hrg2 hg2 hs2 hkey hlx hval hat ex eq' hy
      by_cases hgt : 1 < cntL (W.ss.flatMap (·.wr)) x
      · have HP := Lib.hid (cntOk_no hgt)
        have e1 : decide ((1 : Int) < (cntL (W.ss.flatMap (·.wr)) x : Int)) = true := decide_eq_true (by omega)
        have e2 : decide (1 < cntL (W.ss.flatMap (·.wr)) x) = true := decide_eq_true hgt
        go_wp2
        go_ret
        exact ⟨by rw [HP.out]; rfl, HB2.out⟩
      · have e1 : decide ((1 : Int) < (cntL (W.ss.flatMap (·.wr)) x : Int)) = false := decide_eq_false (by omega)
        have e2 : decide (1 < cntL (W.ss.flatMap (·.wr)) x) = false := decide_eq_false hgt
        have HX := Lib.hid hgt
        clear hgt
        go_wp2
        go_roundw
        case rel =>
          refine ⟨_, _, HH.out, fun key hk => ?_, HB2.out⟩
          by_cases e : key = x
          · subst e; exact .inr (by have := HX.out; omega)
          · rcases HK.out key hk with h | h
            · left; rw [h, sameKey_ne (kl_ne e)]; rfl
            · exact .inr h
        case measure => rw [HH.out.left_eq, HLQ.out]; exact hlt2
end Go.Proofs.YtpbaobmegomfpaaDoor
