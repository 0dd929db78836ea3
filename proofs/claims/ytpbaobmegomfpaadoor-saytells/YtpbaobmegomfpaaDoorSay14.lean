/-
  Walks of the reference's ToldOf.
-/
import Derived.Test.YtpbaobmegomfpaaDoorSay13
import Derived.Test.YtpbaobmegomfpaaDoorSay1
namespace Go.Proofs.YtpbaobmegomfpaaDoor
open Go.RowKit
set_option linter.unusedVariables false
set_option maxRecDepth 100000

set_option maxHeartbeats 1000000 in
theorem told_kind (k : Int) (x : ByteArray) (st : Int) (w : World) (h : k < 1 ∨ 4 < k ∨ st < 0 ∨ 2 < st) :
    Calls Tryd.prog 18 #[.agg #[.int .i64 k, .string x, .int .i64 st]] w fun e w' => e = .returned (.tuple #[.string ⟨#[]⟩, .int .i64 3]) ∧ Below w.heap.size w w' := by
  by_cases h1 : 1 ≤ k ∧ k ≤ 4
  · have H := Lib.hid h
    have H1 := Lib.hid h1
    clear h h1
    go_enter Tryd.func18, Tryd.ntmps18
    go_wp2_with fail
    refine (in_yes _ _ _ _ H1.out).mono ?_
    rintro e w1 ⟨rfl, rfl⟩
    go_wp2_with fail
    refine (in_no _ _ _ _ (by have := H.out; have := H1.out; omega)).mono ?_
    rintro e w2 ⟨rfl, rfl⟩
    go_wp2
    go_ret2
    exact ⟨rfl, (Below.refl _ _).alloc (Nat.le_refl _) _⟩
  · have H1 := Lib.hid h1
    clear h h1
    go_enter Tryd.func18, Tryd.ntmps18
    go_wp2_with fail
    refine (in_no _ _ _ _ H1.out).mono ?_
    rintro e w1 ⟨rfl, rfl⟩
    go_wp2
    go_ret2
    exact ⟨rfl, (Below.refl _ _).alloc (Nat.le_refl _) _⟩

set_option maxHeartbeats 4000000 in
theorem told_form (k : Int) (x : ByteArray) (st : Int) (w : World) (h : ¬ (k < 1 ∨ 4 < k ∨ st < 0 ∨ 2 < st)) (h2 : (decide (k = 2 ∨ k = 4) == x.toList.isEmpty) = true ∨ 60 < x.size) :
    Calls Tryd.prog 18 #[.agg #[.int .i64 k, .string x, .int .i64 st]] w fun e w' => e = .returned (.tuple #[.string ⟨#[]⟩, .int .i64 4]) ∧ Below w.heap.size w w' := by
  have hst : 0 ≤ st ∧ st ≤ 2 := by omega
  have HST := Lib.hid hst
  have hk : k = 1 ∨ k = 2 ∨ k = 3 ∨ k = 4 := by omega
  clear h hst
  cases e1 : x.toList.isEmpty
  · by_cases hl : 60 < x.size
    · have d5 : decide (60 < (x.size : Int)) = true := decide_eq_true (by omega)
      clear h2
      rcases hk with rfl | rfl | rfl | rfl
      all_goals
        go_enter Tryd.func18, Tryd.ntmps18
        go_wp2_with fail
        refine (in_yes _ _ _ _ (by omega)).mono ?_
        rintro e w1 ⟨rfl, rfl⟩
        go_wp2_with fail
        refine (in_yes _ _ _ _ HST.out).mono ?_
        rintro e w2 ⟨rfl, rfl⟩
        go_wp2
        go_ret2
        exact ⟨rfl, (Below.refl _ _).alloc (Nat.le_refl _) _⟩
    · rw [e1] at h2
      rcases hk with rfl | rfl | rfl | rfl
      case inr.inl => simp at h2; omega
      case inr.inr.inr => simp at h2; omega
      all_goals
        clear h2
        go_enter Tryd.func18, Tryd.ntmps18
        go_wp2_with fail
        refine (in_yes _ _ _ _ (by omega)).mono ?_
        rintro e w1 ⟨rfl, rfl⟩
        go_wp2_with fail
        refine (in_yes _ _ _ _ HST.out).mono ?_
        rintro e w2 ⟨rfl, rfl⟩
        go_wp2
        go_ret2
        exact ⟨rfl, (Below.refl _ _).alloc (Nat.le_refl _) _⟩
  · rw [e1] at h2
    have hz := isEmpty_size e1
    rcases hk with rfl | rfl | rfl | rfl
    case inl => simp at h2; omega
    case inr.inr.inl => simp at h2; omega
    all_goals
      clear h2
      go_enter Tryd.func18, Tryd.ntmps18
      go_wp2_with fail
      refine (in_yes _ _ _ _ (by omega)).mono ?_
      rintro e w1 ⟨rfl, rfl⟩
      go_wp2_with fail
      refine (in_yes _ _ _ _ HST.out).mono ?_
      rintro e w2 ⟨rfl, rfl⟩
      go_wp2
      go_ret2
      exact ⟨rfl, (Below.refl _ _).alloc (Nat.le_refl _) _⟩

set_option maxHeartbeats 1000000 in
theorem told_1_0 (x : ByteArray) (w : World) (hs : x.size ≤ 60) (e1 : x.toList.isEmpty = true) :
    Calls Tryd.prog 18 #[.agg #[.int .i64 1, .string x, .int .i64 0]] w fun e w' => e = .returned (.tuple #[.string (tellT 1 0 x), .int .i64 0]) ∧ Below w.heap.size w w' := by
  have ht := Lib.hid (show tellT 1 0 x = (⟨#[73]⟩ : ByteArray) ++ (⟨#[111, 107]⟩ : ByteArray) by unfold tellT; rw [app_empty e1]; rfl)
  have d5 : decide (60 < (x.size : Int)) = false := decide_eq_false (by omega)
  go_enter Tryd.func18, Tryd.ntmps18
  go_wp2_with fail
  refine (in_yes _ _ _ _ (by omega)).mono ?_
  rintro e w1 ⟨rfl, rfl⟩
  go_wp2_with fail
  refine (in_yes _ _ _ _ (by omega)).mono ?_
  rintro e w2 ⟨rfl, rfl⟩
  go_wp2
  go_ret2
  exact ⟨by rw [ht.out]; rfl, (Below.refl _ _).alloc (Nat.le_refl _) _⟩

set_option maxHeartbeats 1000000 in
theorem told_1_1 (x : ByteArray) (w : World) (hs : x.size ≤ 60) (e1 : x.toList.isEmpty = true) :
    Calls Tryd.prog 18 #[.agg #[.int .i64 1, .string x, .int .i64 1]] w fun e w' => e = .returned (.tuple #[.string (tellT 1 1 x), .int .i64 0]) ∧ Below w.heap.size w w' := by
  have ht := Lib.hid (show tellT 1 1 x = (⟨#[84]⟩ : ByteArray) ++ (⟨#[111, 107]⟩ : ByteArray) by unfold tellT; rw [app_empty e1]; rfl)
  have d5 : decide (60 < (x.size : Int)) = false := decide_eq_false (by omega)
  go_enter Tryd.func18, Tryd.ntmps18
  go_wp2_with fail
  refine (in_yes _ _ _ _ (by omega)).mono ?_
  rintro e w1 ⟨rfl, rfl⟩
  go_wp2_with fail
  refine (in_yes _ _ _ _ (by omega)).mono ?_
  rintro e w2 ⟨rfl, rfl⟩
  go_wp2
  go_ret2
  exact ⟨by rw [ht.out]; rfl, (Below.refl _ _).alloc (Nat.le_refl _) _⟩

set_option maxHeartbeats 1000000 in
theorem told_1_2 (x : ByteArray) (w : World) (hs : x.size ≤ 60) (e1 : x.toList.isEmpty = true) :
    Calls Tryd.prog 18 #[.agg #[.int .i64 1, .string x, .int .i64 2]] w fun e w' => e = .returned (.tuple #[.string (tellT 1 2 x), .int .i64 0]) ∧ Below w.heap.size w w' := by
  have ht := Lib.hid (show tellT 1 2 x = (⟨#[70]⟩ : ByteArray) ++ (⟨#[111, 107]⟩ : ByteArray) by unfold tellT; rw [app_empty e1]; rfl)
  have d5 : decide (60 < (x.size : Int)) = false := decide_eq_false (by omega)
  go_enter Tryd.func18, Tryd.ntmps18
  go_wp2_with fail
  refine (in_yes _ _ _ _ (by omega)).mono ?_
  rintro e w1 ⟨rfl, rfl⟩
  go_wp2_with fail
  refine (in_yes _ _ _ _ (by omega)).mono ?_
  rintro e w2 ⟨rfl, rfl⟩
  go_wp2
  go_ret2
  exact ⟨by rw [ht.out]; rfl, (Below.refl _ _).alloc (Nat.le_refl _) _⟩

set_option maxHeartbeats 1000000 in
theorem told_2_0 (x : ByteArray) (w : World) (hs : x.size ≤ 60) (e1 : x.toList.isEmpty = false) :
    Calls Tryd.prog 18 #[.agg #[.int .i64 2, .string x, .int .i64 0]] w fun e w' => e = .returned (.tuple #[.string (tellT 2 0 x), .int .i64 0]) ∧ Below w.heap.size w w' := by
  have ht := Lib.hid (show tellT 2 0 x = ((⟨#[73]⟩ : ByteArray) ++ (⟨#[61]⟩ : ByteArray)) ++ x from rfl)
  have d5 : decide (60 < (x.size : Int)) = false := decide_eq_false (by omega)
  go_enter Tryd.func18, Tryd.ntmps18
  go_wp2_with fail
  refine (in_yes _ _ _ _ (by omega)).mono ?_
  rintro e w1 ⟨rfl, rfl⟩
  go_wp2_with fail
  refine (in_yes _ _ _ _ (by omega)).mono ?_
  rintro e w2 ⟨rfl, rfl⟩
  go_wp2
  go_ret2
  exact ⟨by rw [ht.out]; rfl, (Below.refl _ _).alloc (Nat.le_refl _) _⟩

set_option maxHeartbeats 1000000 in
theorem told_2_1 (x : ByteArray) (w : World) (hs : x.size ≤ 60) (e1 : x.toList.isEmpty = false) :
    Calls Tryd.prog 18 #[.agg #[.int .i64 2, .string x, .int .i64 1]] w fun e w' => e = .returned (.tuple #[.string (tellT 2 1 x), .int .i64 0]) ∧ Below w.heap.size w w' := by
  have ht := Lib.hid (show tellT 2 1 x = ((⟨#[84]⟩ : ByteArray) ++ (⟨#[61]⟩ : ByteArray)) ++ x from rfl)
  have d5 : decide (60 < (x.size : Int)) = false := decide_eq_false (by omega)
  go_enter Tryd.func18, Tryd.ntmps18
  go_wp2_with fail
  refine (in_yes _ _ _ _ (by omega)).mono ?_
  rintro e w1 ⟨rfl, rfl⟩
  go_wp2_with fail
  refine (in_yes _ _ _ _ (by omega)).mono ?_
  rintro e w2 ⟨rfl, rfl⟩
  go_wp2
  go_ret2
  exact ⟨by rw [ht.out]; rfl, (Below.refl _ _).alloc (Nat.le_refl _) _⟩

set_option maxHeartbeats 1000000 in
theorem told_2_2 (x : ByteArray) (w : World) (hs : x.size ≤ 60) (e1 : x.toList.isEmpty = false) :
    Calls Tryd.prog 18 #[.agg #[.int .i64 2, .string x, .int .i64 2]] w fun e w' => e = .returned (.tuple #[.string (tellT 2 2 x), .int .i64 0]) ∧ Below w.heap.size w w' := by
  have ht := Lib.hid (show tellT 2 2 x = ((⟨#[70]⟩ : ByteArray) ++ (⟨#[61]⟩ : ByteArray)) ++ x from rfl)
  have d5 : decide (60 < (x.size : Int)) = false := decide_eq_false (by omega)
  go_enter Tryd.func18, Tryd.ntmps18
  go_wp2_with fail
  refine (in_yes _ _ _ _ (by omega)).mono ?_
  rintro e w1 ⟨rfl, rfl⟩
  go_wp2_with fail
  refine (in_yes _ _ _ _ (by omega)).mono ?_
  rintro e w2 ⟨rfl, rfl⟩
  go_wp2
  go_ret2
  exact ⟨by rw [ht.out]; rfl, (Below.refl _ _).alloc (Nat.le_refl _) _⟩

set_option maxHeartbeats 1000000 in
theorem told_3_0 (x : ByteArray) (w : World) (hs : x.size ≤ 60) (e1 : x.toList.isEmpty = true) :
    Calls Tryd.prog 18 #[.agg #[.int .i64 3, .string x, .int .i64 0]] w fun e w' => e = .returned (.tuple #[.string (tellT 3 0 x), .int .i64 0]) ∧ Below w.heap.size w w' := by
  have ht := Lib.hid (show tellT 3 0 x = (⟨#[73]⟩ : ByteArray) ++ (⟨#[110, 111, 110, 101]⟩ : ByteArray) by unfold tellT; rw [app_empty e1]; rfl)
  have d5 : decide (60 < (x.size : Int)) = false := decide_eq_false (by omega)
  go_enter Tryd.func18, Tryd.ntmps18
  go_wp2_with fail
  refine (in_yes _ _ _ _ (by omega)).mono ?_
  rintro e w1 ⟨rfl, rfl⟩
  go_wp2_with fail
  refine (in_yes _ _ _ _ (by omega)).mono ?_
  rintro e w2 ⟨rfl, rfl⟩
  go_wp2
  go_ret2
  exact ⟨by rw [ht.out]; rfl, (Below.refl _ _).alloc (Nat.le_refl _) _⟩

set_option maxHeartbeats 1000000 in
theorem told_3_1 (x : ByteArray) (w : World) (hs : x.size ≤ 60) (e1 : x.toList.isEmpty = true) :
    Calls Tryd.prog 18 #[.agg #[.int .i64 3, .string x, .int .i64 1]] w fun e w' => e = .returned (.tuple #[.string (tellT 3 1 x), .int .i64 0]) ∧ Below w.heap.size w w' := by
  have ht := Lib.hid (show tellT 3 1 x = (⟨#[84]⟩ : ByteArray) ++ (⟨#[110, 111, 110, 101]⟩ : ByteArray) by unfold tellT; rw [app_empty e1]; rfl)
  have d5 : decide (60 < (x.size : Int)) = false := decide_eq_false (by omega)
  go_enter Tryd.func18, Tryd.ntmps18
  go_wp2_with fail
  refine (in_yes _ _ _ _ (by omega)).mono ?_
  rintro e w1 ⟨rfl, rfl⟩
  go_wp2_with fail
  refine (in_yes _ _ _ _ (by omega)).mono ?_
  rintro e w2 ⟨rfl, rfl⟩
  go_wp2
  go_ret2
  exact ⟨by rw [ht.out]; rfl, (Below.refl _ _).alloc (Nat.le_refl _) _⟩

set_option maxHeartbeats 1000000 in
theorem told_3_2 (x : ByteArray) (w : World) (hs : x.size ≤ 60) (e1 : x.toList.isEmpty = true) :
    Calls Tryd.prog 18 #[.agg #[.int .i64 3, .string x, .int .i64 2]] w fun e w' => e = .returned (.tuple #[.string (tellT 3 2 x), .int .i64 0]) ∧ Below w.heap.size w w' := by
  have ht := Lib.hid (show tellT 3 2 x = (⟨#[70]⟩ : ByteArray) ++ (⟨#[110, 111, 110, 101]⟩ : ByteArray) by unfold tellT; rw [app_empty e1]; rfl)
  have d5 : decide (60 < (x.size : Int)) = false := decide_eq_false (by omega)
  go_enter Tryd.func18, Tryd.ntmps18
  go_wp2_with fail
  refine (in_yes _ _ _ _ (by omega)).mono ?_
  rintro e w1 ⟨rfl, rfl⟩
  go_wp2_with fail
  refine (in_yes _ _ _ _ (by omega)).mono ?_
  rintro e w2 ⟨rfl, rfl⟩
  go_wp2
  go_ret2
  exact ⟨by rw [ht.out]; rfl, (Below.refl _ _).alloc (Nat.le_refl _) _⟩

set_option maxHeartbeats 1000000 in
theorem told_4_0 (x : ByteArray) (w : World) (hs : x.size ≤ 60) (e1 : x.toList.isEmpty = false) :
    Calls Tryd.prog 18 #[.agg #[.int .i64 4, .string x, .int .i64 0]] w fun e w' => e = .returned (.tuple #[.string (tellT 4 0 x), .int .i64 0]) ∧ Below w.heap.size w w' := by
  have ht := Lib.hid (show tellT 4 0 x = ((⟨#[73]⟩ : ByteArray) ++ (⟨#[33]⟩ : ByteArray)) ++ x from rfl)
  have d5 : decide (60 < (x.size : Int)) = false := decide_eq_false (by omega)
  go_enter Tryd.func18, Tryd.ntmps18
  go_wp2_with fail
  refine (in_yes _ _ _ _ (by omega)).mono ?_
  rintro e w1 ⟨rfl, rfl⟩
  go_wp2_with fail
  refine (in_yes _ _ _ _ (by omega)).mono ?_
  rintro e w2 ⟨rfl, rfl⟩
  go_wp2
  go_ret2
  exact ⟨by rw [ht.out]; rfl, (Below.refl _ _).alloc (Nat.le_refl _) _⟩

set_option maxHeartbeats 1000000 in
theorem told_4_1 (x : ByteArray) (w : World) (hs : x.size ≤ 60) (e1 : x.toList.isEmpty = false) :
    Calls Tryd.prog 18 #[.agg #[.int .i64 4, .string x, .int .i64 1]] w fun e w' => e = .returned (.tuple #[.string (tellT 4 1 x), .int .i64 0]) ∧ Below w.heap.size w w' := by
  have ht := Lib.hid (show tellT 4 1 x = ((⟨#[84]⟩ : ByteArray) ++ (⟨#[33]⟩ : ByteArray)) ++ x from rfl)
  have d5 : decide (60 < (x.size : Int)) = false := decide_eq_false (by omega)
  go_enter Tryd.func18, Tryd.ntmps18
  go_wp2_with fail
  refine (in_yes _ _ _ _ (by omega)).mono ?_
  rintro e w1 ⟨rfl, rfl⟩
  go_wp2_with fail
  refine (in_yes _ _ _ _ (by omega)).mono ?_
  rintro e w2 ⟨rfl, rfl⟩
  go_wp2
  go_ret2
  exact ⟨by rw [ht.out]; rfl, (Below.refl _ _).alloc (Nat.le_refl _) _⟩

set_option maxHeartbeats 1000000 in
theorem told_4_2 (x : ByteArray) (w : World) (hs : x.size ≤ 60) (e1 : x.toList.isEmpty = false) :
    Calls Tryd.prog 18 #[.agg #[.int .i64 4, .string x, .int .i64 2]] w fun e w' => e = .returned (.tuple #[.string (tellT 4 2 x), .int .i64 0]) ∧ Below w.heap.size w w' := by
  have ht := Lib.hid (show tellT 4 2 x = ((⟨#[70]⟩ : ByteArray) ++ (⟨#[33]⟩ : ByteArray)) ++ x from rfl)
  have d5 : decide (60 < (x.size : Int)) = false := decide_eq_false (by omega)
  go_enter Tryd.func18, Tryd.ntmps18
  go_wp2_with fail
  refine (in_yes _ _ _ _ (by omega)).mono ?_
  rintro e w1 ⟨rfl, rfl⟩
  go_wp2_with fail
  refine (in_yes _ _ _ _ (by omega)).mono ?_
  rintro e w2 ⟨rfl, rfl⟩
  go_wp2
  go_ret2
  exact ⟨by rw [ht.out]; rfl, (Below.refl _ _).alloc (Nat.le_refl _) _⟩

theorem told_ok (k st : Nat) (x : ByteArray) (w : World) (h : ¬ ((k : Int) < 1 ∨ 4 < (k : Int) ∨ (st : Int) < 0 ∨ 2 < (st : Int))) (h2 : ¬ ((decide ((k : Int) = 2 ∨ (k : Int) = 4) == x.toList.isEmpty) = true ∨ 60 < x.size)) :
    Calls Tryd.prog 18 #[.agg #[.int .i64 k, .string x, .int .i64 st]] w fun e w' => e = .returned (.tuple #[.string (tellT k st x), .int .i64 0]) ∧ Below w.heap.size w w' := by
  have hs : x.size ≤ 60 := by
    by_cases hl : 60 < x.size
    · exact absurd (.inr hl) h2
    · omega
  have hq : (decide ((k : Int) = 2 ∨ (k : Int) = 4) == x.toList.isEmpty) = false := by
    cases hq : (decide ((k : Int) = 2 ∨ (k : Int) = 4) == x.toList.isEmpty)
    · rfl
    · exact absurd (.inl hq) h2
  have hst : st = 0 ∨ st = 1 ∨ st = 2 := by omega
  have hk : k = 1 ∨ k = 2 ∨ k = 3 ∨ k = 4 := by omega
  clear h h2
  rcases hk with rfl | rfl | rfl | rfl
  · have e1 : x.toList.isEmpty = true := by simpa using hq
    rcases hst with rfl | rfl | rfl
    · exact told_1_0 x w hs e1
    · exact told_1_1 x w hs e1
    · exact told_1_2 x w hs e1
  · have e1 : x.toList.isEmpty = false := by simpa using hq
    rcases hst with rfl | rfl | rfl
    · exact told_2_0 x w hs e1
    · exact told_2_1 x w hs e1
    · exact told_2_2 x w hs e1
  · have e1 : x.toList.isEmpty = true := by simpa using hq
    rcases hst with rfl | rfl | rfl
    · exact told_3_0 x w hs e1
    · exact told_3_1 x w hs e1
    · exact told_3_2 x w hs e1
  · have e1 : x.toList.isEmpty = false := by simpa using hq
    rcases hst with rfl | rfl | rfl
    · exact told_4_0 x w hs e1
    · exact told_4_1 x w hs e1
    · exact told_4_2 x w hs e1

end Go.Proofs.YtpbaobmegomfpaaDoor
