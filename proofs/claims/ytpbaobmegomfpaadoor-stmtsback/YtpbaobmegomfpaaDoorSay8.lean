/-
  Walks of the reference's StmtFault, where StmtOf is known for shorter texts.
-/
import Derived.Test.YtpbaobmegomfpaaDoorSay7
namespace Go.Proofs.YtpbaobmegomfpaaDoor
open Go.RowKit
set_option linter.unusedVariables false
set_option maxRecDepth 100000

/-- what StmtOf does at a text -/
structure OfSaid (t : ByteArray) : Prop where
  ok : readE t = 0 → ∀ w : World, Calls Tryd.prog 16 #[.string t] w fun e w' => e = .returned (.tuple #[.agg #[.int .i64 (kindN (cutA t)), .string (cutA (cutB t)), .string (cutB (cutB t))], .int .i64 0]) ∧ Below w.heap.size w w'
  no : readE t ≠ 0 → ∀ w : World, Calls Tryd.prog 16 #[.string t] w fun e w' => e = .returned (.tuple #[.agg #[.int .i64 0, .string ⟨#[]⟩, .string ⟨#[]⟩], .int .i64 (readE t)]) ∧ Below w.heap.size w w'

/-- what StmtFault does at a statement -/
def FaultSaid (k : Int) (key v : ByteArray) : Prop := ∀ w : World, Calls Tryd.prog 12 #[.agg #[.int .i64 k, .string key, .string v]] w fun e w' => e = .returned (.int .i64 (checkE k key v)) ∧ Below w.heap.size w w'

set_option maxHeartbeats 400000 in
theorem fault_kind (k : Int) (key v : ByteArray) (h : k < 1 ∨ 11 < k) : FaultSaid k key v := by
  intro w
  rw [checkE_kind h]
  go_enter Tryd.func12, Tryd.ntmps12
  go_wp2_with fail
  refine (in_no _ _ _ _ (by omega)).mono ?_
  rintro e w1 ⟨rfl, rfl⟩
  go_wp2
  go_ret
  exact ⟨rfl, (Below.refl _ _).alloc (Nat.le_refl _) _⟩

set_option maxHeartbeats 1000000 in
theorem fault_small (k : Int) (key v : ByteArray) (h1 : 1 ≤ k) (h2 : k < 6) : FaultSaid k key v := by
  intro w
  have hkb : keyB k key = key.toList.isEmpty := keyB_no (by omega)
  have hvb : valueB k v = v.toList.isEmpty := by unfold valueB; rw [if_neg (by omega)]; exact plainV_no (by omega)
  have hk : ¬ (k < 1 ∨ 11 < k) := by omega
  cases e1 : key.toList.isEmpty
  · rw [checkE_key hk (hkb.trans e1)]
    clear hkb hvb hk
    go_enter Tryd.func12, Tryd.ntmps12
    go_wp2_with fail
    refine (in_yes _ _ _ _ (by omega)).mono ?_
    rintro e w1 ⟨rfl, rfl⟩
    go_wp2
    go_ret
    exact ⟨rfl, (Below.refl _ _).alloc (Nat.le_refl _) _⟩
  · cases e2 : v.toList.isEmpty
    all_goals
      first | rw [checkE_value hk (hvb.trans e2)] | rw [checkE_ok hk (hkb.trans e1) (hvb.trans e2)]
      clear hkb hvb hk
      go_enter Tryd.func12, Tryd.ntmps12
      go_wp2_with fail
      refine (in_yes _ _ _ _ (by omega)).mono ?_
      rintro e w1 ⟨rfl, rfl⟩
      go_wp2
      go_ret
      exact ⟨rfl, (Below.refl _ _).alloc (Nat.le_refl _) _⟩

set_option maxHeartbeats 1000000 in
theorem fault_name (k : Int) (key v : ByteArray) (hs : key.size ≤ maxLen) (h1 : 6 ≤ k) (h2 : k ≤ 11) (h : bndB 97 122 8 key = false) : FaultSaid k key v := by
  intro w
  rw [checkE_key (by omega) ((keyB_yes ⟨h1, h2⟩).trans h)]
  have H := Lib.hid h
  clear h
  go_enter Tryd.func12, Tryd.ntmps12
  go_wp2_with fail
  refine (in_yes _ _ _ _ (by omega)).mono ?_
  rintro e w1 ⟨rfl, rfl⟩
  go_wp2_with fail
  refine (nameMay_any key _ hs).mono ?_
  rw [H.out]
  rintro e w2 ⟨rfl, rfl⟩
  go_wp2
  go_ret
  exact ⟨rfl, (Below.refl _ _).alloc (Nat.le_refl _) _⟩

set_option maxHeartbeats 1000000 in
theorem fault_get (k : Int) (key v : ByteArray) (hs : key.size ≤ maxLen) (hk : k = 6 ∨ k = 7 ∨ k = 8) (h : bndB 97 122 8 key = true) : FaultSaid k key v := by
  intro w
  have hkb : keyB k key = true := (keyB_yes (by omega)).trans h
  have hvb : valueB k v = v.toList.isEmpty := by unfold valueB; rw [if_neg (by omega)]; exact plainV_no (by omega)
  have hn : ¬ (k < 1 ∨ 11 < k) := by omega
  have H := Lib.hid h
  clear h
  cases e2 : v.toList.isEmpty
  all_goals
    first | rw [checkE_value hn (hvb.trans e2)] | rw [checkE_ok hn hkb (hvb.trans e2)]
    clear hkb hvb hn
    rcases hk with rfl | rfl | rfl
    all_goals
      go_enter Tryd.func12, Tryd.ntmps12
      go_wp2_with fail
      refine (in_yes _ _ _ _ (by omega)).mono ?_
      rintro e w1 ⟨rfl, rfl⟩
      go_wp2_with fail
      refine (nameMay_any key _ hs).mono ?_
      rw [H.out]
      rintro e w2 ⟨rfl, rfl⟩
      go_wp2
      go_ret
      exact ⟨rfl, (Below.refl _ _).alloc (Nat.le_refl _) _⟩

set_option maxHeartbeats 1000000 in
theorem fault_set (k : Int) (key v : ByteArray) (hs : key.size ≤ maxLen) (hv : v.size ≤ maxLen) (hk : k = 9 ∨ k = 10) (h : bndB 97 122 8 key = true) : FaultSaid k key v := by
  intro w
  have hkb : keyB k key = true := (keyB_yes (by omega)).trans h
  have hvb : valueB k v = bndB 33 126 20 v := by unfold valueB; rw [if_neg (by omega)]; exact plainV_yes hk
  have hn : ¬ (k < 1 ∨ 11 < k) := by omega
  have H := Lib.hid h
  clear h
  cases e2 : bndB 33 126 20 v
  all_goals
    first | rw [checkE_value hn (hvb.trans e2)] | rw [checkE_ok hn hkb (hvb.trans e2)]
    clear hkb hvb hn
    have E2 := Lib.hid e2
    clear e2
    rcases hk with rfl | rfl
    all_goals
      go_enter Tryd.func12, Tryd.ntmps12
      go_wp2_with fail
      refine (in_yes _ _ _ _ (by omega)).mono ?_
      rintro e w1 ⟨rfl, rfl⟩
      go_wp2_with fail
      refine (nameMay_any key _ hs).mono ?_
      rw [H.out]
      rintro e w2 ⟨rfl, rfl⟩
      go_wp2_with fail
      refine (valueMay_any v _ hv).mono ?_
      rw [E2.out]
      rintro e w3 ⟨rfl, rfl⟩
      go_wp2
      go_ret
      exact ⟨rfl, (Below.refl _ _).alloc (Nat.le_refl _) _⟩

set_option maxHeartbeats 1000000 in
theorem fault_prep (key v : ByteArray) (hs : key.size ≤ maxLen) (hO : OfSaid v) (h : bndB 97 122 8 key = true) : FaultSaid 11 key v := by
  intro w
  have hkb : keyB 11 key = true := (keyB_yes (by omega)).trans h
  have hvb : valueB 11 v = prepB v := rfl
  have hn : ¬ ((11 : Int) < 1 ∨ 11 < (11 : Int)) := by omega
  have H := Lib.hid h
  clear h
  rw [prepB_read] at hvb
  by_cases hr : readE v = 0
  · have hO1 := Lib.hid (hO.ok hr)
    clear hO
    rw [decide_eq_true hr, Bool.true_and] at hvb
    generalize cutA (cutB v) = key2 at *
    generalize cutB (cutB v) = v2 at *
    generalize kindN (cutA v) = k2 at *
    by_cases hk : k2 = 6 ∨ k2 = 7 ∨ k2 = 10
    · rw [checkE_ok hn hkb (by rw [hvb]; exact decide_eq_true hk)]
      clear hkb hvb hn hr
      rcases hk with rfl | rfl | rfl
      · go_enter Tryd.func12, Tryd.ntmps12
        go_wp2_with fail
        refine (in_yes _ _ _ _ (by omega)).mono ?_
        rintro e w1 ⟨rfl, rfl⟩
        go_wp2_with fail
        refine (nameMay_any key _ hs).mono ?_
        rw [H.out]
        rintro e w2 ⟨rfl, rfl⟩
        go_wp2_with fail
        refine (hO1.out _).mono ?_
        rintro e w3 ⟨rfl, hb⟩
        go_wp2_with fail
        refine (in_yes _ _ _ _ (by omega)).mono ?_
        rintro e w4 ⟨rfl, rfl⟩
        go_wp2
        go_ret
        exact ⟨rfl, (bel_trans ((Below.refl _ _).alloc (Nat.le_refl _) _) hb).alloc (bel_trans ((Below.refl _ _).alloc (Nat.le_refl _) _) hb).size _⟩
      · go_enter Tryd.func12, Tryd.ntmps12
        go_wp2_with fail
        refine (in_yes _ _ _ _ (by omega)).mono ?_
        rintro e w1 ⟨rfl, rfl⟩
        go_wp2_with fail
        refine (nameMay_any key _ hs).mono ?_
        rw [H.out]
        rintro e w2 ⟨rfl, rfl⟩
        go_wp2_with fail
        refine (hO1.out _).mono ?_
        rintro e w3 ⟨rfl, hb⟩
        go_wp2_with fail
        refine (in_yes _ _ _ _ (by omega)).mono ?_
        rintro e w4 ⟨rfl, rfl⟩
        go_wp2
        go_ret
        exact ⟨rfl, (bel_trans ((Below.refl _ _).alloc (Nat.le_refl _) _) hb).alloc (bel_trans ((Below.refl _ _).alloc (Nat.le_refl _) _) hb).size _⟩
      · go_enter Tryd.func12, Tryd.ntmps12
        go_wp2_with fail
        refine (in_yes _ _ _ _ (by omega)).mono ?_
        rintro e w1 ⟨rfl, rfl⟩
        go_wp2_with fail
        refine (nameMay_any key _ hs).mono ?_
        rw [H.out]
        rintro e w2 ⟨rfl, rfl⟩
        go_wp2_with fail
        refine (hO1.out _).mono ?_
        rintro e w3 ⟨rfl, hb⟩
        go_wp2_with fail
        refine (in_no _ _ _ _ (by omega)).mono ?_
        rintro e w4 ⟨rfl, rfl⟩
        go_wp2
        go_ret
        exact ⟨rfl, (bel_trans ((Below.refl _ _).alloc (Nat.le_refl _) _) hb).alloc (bel_trans ((Below.refl _ _).alloc (Nat.le_refl _) _) hb).size _⟩
    · rw [checkE_value hn (by rw [hvb]; exact decide_eq_false hk)]
      clear hkb hvb hn hr
      have h10 : ((k2 : Int) != 10) = true := bne_iff_ne.2 (by omega)
      have HK := Lib.hid hk
      clear hk
      · go_enter Tryd.func12, Tryd.ntmps12
        go_wp2_with fail
        refine (in_yes _ _ _ _ (by omega)).mono ?_
        rintro e w1 ⟨rfl, rfl⟩
        go_wp2_with fail
        refine (nameMay_any key _ hs).mono ?_
        rw [H.out]
        rintro e w2 ⟨rfl, rfl⟩
        go_wp2_with fail
        refine (hO1.out _).mono ?_
        rintro e w3 ⟨rfl, hb⟩
        go_wp2_with fail
        refine (in_no _ _ _ _ (by have := HK.out; omega)).mono ?_
        rintro e w4 ⟨rfl, rfl⟩
        go_wp2
        go_ret
        exact ⟨rfl, (bel_trans ((Below.refl _ _).alloc (Nat.le_refl _) _) hb).alloc (bel_trans ((Below.refl _ _).alloc (Nat.le_refl _) _) hb).size _⟩
  · have hO1 := Lib.hid (hO.no hr)
    clear hO
    rw [decide_eq_false hr, Bool.false_and] at hvb
    rw [checkE_value hn hvb]
    clear hkb hvb hn
    have hne : (readE v != 0) = true := bne_iff_ne.2 hr
    generalize readE v = e0 at *
    clear hr
    · go_enter Tryd.func12, Tryd.ntmps12
      go_wp2_with fail
      refine (in_yes _ _ _ _ (by omega)).mono ?_
      rintro e w1 ⟨rfl, rfl⟩
      go_wp2_with fail
      refine (nameMay_any key _ hs).mono ?_
      rw [H.out]
      rintro e w2 ⟨rfl, rfl⟩
      go_wp2_with fail
      refine (hO1.out _).mono ?_
      rintro e w3 ⟨rfl, hb⟩
      go_wp2
      go_ret
      exact ⟨rfl, (bel_trans ((Below.refl _ _).alloc (Nat.le_refl _) _) hb).alloc (bel_trans ((Below.refl _ _).alloc (Nat.le_refl _) _) hb).size _⟩

/-- StmtFault, where StmtOf is known at the Value -/
theorem fault_of (k : Int) (key v : ByteArray) (hs : key.size ≤ maxLen) (hv : v.size ≤ maxLen) (hO : OfSaid v) : FaultSaid k key v := by
  by_cases h : k < 1 ∨ 11 < k
  · exact fault_kind k key v h
  · by_cases h6 : k < 6
    · exact fault_small k key v (by omega) h6
    · cases hn : bndB 97 122 8 key
      · exact fault_name k key v hs (by omega) (by omega) hn
      · by_cases h8 : k ≤ 8
        · exact fault_get k key v hs (by omega) hn
        · by_cases h10 : k ≤ 10
          · exact fault_set k key v hs hv (by omega) hn
          · obtain rfl : k = 11 := by omega
            exact fault_prep key v hs hO hn

end Go.Proofs.YtpbaobmegomfpaaDoor
