/-
  Walks of say.Check and what it calls.
-/
import Derived.Test.YtpbaobmegomfpaaDoorSay5
namespace Go.Proofs.YtpbaobmegomfpaaDoor
open Go.RowKit
set_option linter.unusedVariables false
set_option maxRecDepth 100000

/-- a cell of a block that was just laid -/
theorem cell_new (w : World) (cs : Array Value) (t : TypeId) (i : Nat) (h : i < cs.size) : (w.alloc (.cells cs t)).cell? ⟨w.heap.size, i, none⟩ = some cs[i] := by
  rw [World.cell?_alloc_at _ _ _ _ rfl, Array.getElem?_eq_getElem h]

set_option maxHeartbeats 400000 in
theorem plainValueFits_any (k : Int) (key v : ByteArray) (w : World) (hv : v.size ≤ maxLen) :
    Calls Tryd.prog 48 #[.agg #[.int .i64 k, .string key, .string v]] w fun e w' => e = .returned (.bool (plainV k v)) ∧ Below w.heap.size w w' := by
  by_cases h : k = 9 ∨ k = 10
  · rw [plainV_yes h]
    rcases h with rfl | rfl
    all_goals
      go_enter Tryd.func48, Tryd.ntmps48
      go_wp2_with fail
      refine (isValue_any v _ hv).mono ?_
      rintro e w1 ⟨rfl, hb⟩
      go_wp2
      go_ret
      exact ⟨rfl, bel_trans ((Below.refl _ _).alloc (Nat.le_refl _) _) hb⟩
  · rw [plainV_no h]
    have h9 : (k == 9) = false := beq_eq_false_iff_ne.2 (by omega)
    have h10 : (k == 10) = false := beq_eq_false_iff_ne.2 (by omega)
    clear h
    go_enter Tryd.func48, Tryd.ntmps48
    go_wp2
    go_ret
    exact ⟨rfl, (Below.refl _ _).alloc (Nat.le_refl _) _⟩

set_option maxHeartbeats 1000000 in
theorem keyFits_any (k : Int) (key v : ByteArray) (w : World) (hk : key.size ≤ maxLen) :
    Calls Tryd.prog 24 #[.agg #[.int .i64 k, .string key, .string v]] w fun e w' => e = .returned (.bool (keyB k key)) ∧ Below w.heap.size w w' := by
  by_cases h : 6 ≤ k ∧ k ≤ 11
  · rw [keyB_yes h]
    obtain rfl | rfl | rfl | rfl | rfl | rfl : k = 6 ∨ k = 7 ∨ k = 8 ∨ k = 9 ∨ k = 10 ∨ k = 11 := by omega
    all_goals
      clear h
      go_enter Tryd.func24, Tryd.ntmps24
      go_wp2_with fail
      refine (name_any key _ hk).mono ?_
      rintro e w1 ⟨rfl, hb⟩
      go_wp2
      go_ret
      exact ⟨rfl, bel_trans ((Below.refl _ _).alloc (Nat.le_refl _) _) hb⟩
  · rw [keyB_no h]
    have h6 : (k == 6) = false := beq_eq_false_iff_ne.2 (by omega)
    have h7 : (k == 7) = false := beq_eq_false_iff_ne.2 (by omega)
    have h8 : (k == 8) = false := beq_eq_false_iff_ne.2 (by omega)
    have h9 : (k == 9) = false := beq_eq_false_iff_ne.2 (by omega)
    have h10 : (k == 10) = false := beq_eq_false_iff_ne.2 (by omega)
    have h11 : (k == 11) = false := beq_eq_false_iff_ne.2 (by omega)
    clear h
    go_enter Tryd.func24, Tryd.ntmps24
    go_wp2
    go_ret
    exact ⟨rfl, (Below.refl _ _).alloc (Nat.le_refl _) _⟩

set_option maxHeartbeats 1000000 in
theorem preparable_any (t : ByteArray) (w : World) (ht : t.size ≤ maxLen) (hW : Words w) :
    Calls Tryd.prog 47 #[.string t] w fun e w' => e = .returned (.bool (prepB t)) ∧ Below w.heap.size w w' := by
  have HW := Lib.hid hW
  clear hW
  by_cases h : splitE t = 0
  · by_cases hk : kindN (cutA t) = 6 ∨ kindN (cutA t) = 7 ∨ kindN (cutA t) = 10
    · rw [prepB_rest h hk]
      have H := Lib.hid h
      clear h
      have hs1 : (cutA (cutB t)).size ≤ maxLen := by rw [cutA_size]; have := cutI_le (cutB t); have := cutB_size t; omega
      have hs2 : (cutB (cutB t)).size ≤ maxLen := by rw [cutB_size]; have := cutB_size t; omega
      have hsp := Lib.hid (split_ok t w ht HW.out H.out)
      generalize cutA (cutB t) = key at *
      generalize cutB (cutB t) = v at *
      generalize kindN (cutA t) = k at *
      cases hn : bndB 97 122 8 key
      · have HN := Lib.hid hn
        clear hn
        rcases hk with rfl | rfl | rfl
        all_goals
          go_enter Tryd.func47, Tryd.ntmps47
          go_wp2_with fail
          refine hsp.out.mono ?_
          rintro e w1 ⟨rfl, hb⟩
          go_wp2_with fail
          refine (name_any key _ hs1).mono ?_
          rw [HN.out]
          rintro e w2 ⟨rfl, hb2⟩
          go_wp2
          go_ret
          exact ⟨by rw [Bool.false_and]; rfl, bel_trans (hb.alloc hb.size _) hb2⟩
      · have HN := Lib.hid hn
        clear hn
        rcases hk with rfl | rfl | rfl
        all_goals
          go_enter Tryd.func47, Tryd.ntmps47
          go_wp2_with fail
          refine hsp.out.mono ?_
          rintro e w1 ⟨rfl, hb⟩
          go_wp2_with fail
          refine (name_any key _ hs1).mono ?_
          rw [HN.out]
          rintro e w2 ⟨rfl, hb2⟩
          have c0 := (hb2.cell (p := ⟨w1.heap.size, 0, none⟩) (by simp)).trans (cell_new w1 _ _ 0 (by simp))
          have c1 := (hb2.cell (p := ⟨w1.heap.size, 1, none⟩) (by simp)).trans (cell_new w1 _ _ 1 (by simp))
          have c2 := (hb2.cell (p := ⟨w1.heap.size, 2, none⟩) (by simp)).trans (cell_new w1 _ _ 2 (by simp))
          simp only [List.getElem_toArray, List.getElem_cons_zero, List.getElem_cons_succ] at c0 c1 c2
          go_wp2_with fail
          refine (plainValueFits_any _ key v _ hs2).mono ?_
          rintro e w3 ⟨rfl, hb3⟩
          go_wp2
          go_ret
          exact ⟨by rw [Bool.true_and]; rfl, bel_trans (bel_trans (hb.alloc hb.size _) hb2) hb3⟩
    · rw [prepB_kind hk]
      have H := Lib.hid h
      clear h
      have hsp := Lib.hid (split_ok t w ht HW.out H.out)
      generalize cutA (cutB t) = key at *
      generalize cutB (cutB t) = v at *
      generalize kindN (cutA t) = k at *
      have h6 : ((k : Int) == 6) = false := beq_eq_false_iff_ne.2 (by omega)
      have h7 : ((k : Int) == 7) = false := beq_eq_false_iff_ne.2 (by omega)
      have h10 : ((k : Int) == 10) = false := beq_eq_false_iff_ne.2 (by omega)
      clear hk
      go_enter Tryd.func47, Tryd.ntmps47
      go_wp2_with fail
      refine hsp.out.mono ?_
      rintro e w1 ⟨rfl, hb⟩
      go_wp2
      go_ret
      exact ⟨rfl, hb.alloc hb.size _⟩
  · rw [prepB_split h]
    have hsp := Lib.hid (split_no t w ht HW.out h)
    have hne : ((splitE t) != 0) = true := bne_iff_ne.2 h
    generalize splitE t = e0 at *
    clear h
    go_enter Tryd.func47, Tryd.ntmps47
    go_wp2_with fail
    refine hsp.out.mono ?_
    rintro e w1 ⟨rfl, hb⟩
    go_wp2
    go_ret
    exact ⟨rfl, hb.alloc hb.size _⟩

set_option maxHeartbeats 400000 in
theorem valueFits_any (k : Int) (key v : ByteArray) (w : World) (hv : v.size ≤ maxLen) (hW : Words w) :
    Calls Tryd.prog 25 #[.agg #[.int .i64 k, .string key, .string v]] w fun e w' => e = .returned (.bool (valueB k v)) ∧ Below w.heap.size w w' := by
  have HW := Lib.hid hW
  clear hW
  by_cases h : k = 11
  · subst h
    go_enter Tryd.func25, Tryd.ntmps25
    go_wp2_with fail
    refine (preparable_any v _ hv (HW.out.alloc _)).mono ?_
    rintro e w1 ⟨rfl, hb⟩
    go_wp2
    go_ret
    exact ⟨rfl, bel_trans ((Below.refl _ _).alloc (Nat.le_refl _) _) hb⟩
  · have hvb := Lib.hid (show valueB k v = plainV k v by unfold valueB; rw [if_neg h])
    have h11 : (k == 11) = false := beq_eq_false_iff_ne.2 h
    clear h
    go_enter Tryd.func25, Tryd.ntmps25
    go_wp2_with fail
    refine (plainValueFits_any k key v _ hv).mono ?_
    rintro e w1 ⟨rfl, hb⟩
    go_wp2
    go_ret
    exact ⟨by rw [hvb.out]; rfl, bel_trans ((Below.refl _ _).alloc (Nat.le_refl _) _) hb⟩

set_option maxHeartbeats 1000000 in
theorem check_any (k : Int) (key v : ByteArray) (w : World) (hk : key.size ≤ maxLen) (hv : v.size ≤ maxLen) (hW : Words w) :
    Calls Tryd.prog 11 #[.agg #[.int .i64 k, .string key, .string v]] w fun e w' => e = .returned (.int .i64 (checkE k key v)) ∧ Below w.heap.size w w' := by
  have HW := Lib.hid hW
  clear hW
  by_cases h : k < 1 ∨ 11 < k
  · rw [checkE_kind h]
    rcases h with h | h
    · go_enter Tryd.func11, Tryd.ntmps11
      go_wp2
      go_ret
      exact ⟨rfl, (Below.refl _ _).alloc (Nat.le_refl _) _⟩
    · have h1 : decide (k < 1) = false := decide_eq_false (by omega)
      go_enter Tryd.func11, Tryd.ntmps11
      go_wp2
      go_ret
      exact ⟨rfl, (Below.refl _ _).alloc (Nat.le_refl _) _⟩
  · have d1 : decide (k < 1) = false := decide_eq_false (by omega)
    have d2 : decide (11 < k) = false := decide_eq_false (by omega)
    cases h1 : keyB k key
    · rw [checkE_key h h1]
      have H1 := Lib.hid h1
      clear h h1
      go_enter Tryd.func11, Tryd.ntmps11
      go_wp2_with fail
      refine (keyFits_any k key v _ hk).mono ?_
      rw [H1.out]
      rintro e w1 ⟨rfl, hb⟩
      go_wp2
      go_ret
      exact ⟨rfl, bel_trans ((Below.refl _ _).alloc (Nat.le_refl _) _) hb⟩
    · have H1 := Lib.hid h1
      cases h2 : valueB k v
      all_goals
        first | rw [checkE_value h h2] | rw [checkE_ok h h1 h2]
        have H2 := Lib.hid h2
        clear h2 h h1
        go_enter Tryd.func11, Tryd.ntmps11
        go_wp2_with fail
        refine (keyFits_any k key v _ hk).mono ?_
        rw [H1.out]
        rintro e w1 ⟨rfl, hb⟩
        have c0 := (hb.cell (p := ⟨w.heap.size, 0, none⟩) (by simp)).trans (cell_new w _ _ 0 (by simp))
        have c1 := (hb.cell (p := ⟨w.heap.size, 1, none⟩) (by simp)).trans (cell_new w _ _ 1 (by simp))
        have c2 := (hb.cell (p := ⟨w.heap.size, 2, none⟩) (by simp)).trans (cell_new w _ _ 2 (by simp))
        simp only [List.getElem_toArray, List.getElem_cons_zero, List.getElem_cons_succ] at c0 c1 c2
        have hW1 := Lib.hid ((HW.out.alloc _).below hb)
        go_wp2_with fail
        refine (valueFits_any k key v _ hv hW1.out).mono ?_
        rw [H2.out]
        rintro e w2 ⟨rfl, hb2⟩
        go_wp2
        go_ret
        exact ⟨rfl, bel_trans (bel_trans ((Below.refl _ _).alloc (Nat.le_refl _) _) hb) hb2⟩

end Go.Proofs.YtpbaobmegomfpaaDoor
