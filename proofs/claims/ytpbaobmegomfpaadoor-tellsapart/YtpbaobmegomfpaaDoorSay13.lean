/-
  Walks of say.Tell.
-/
import Derived.Test.YtpbaobmegomfpaaDoorRows
import Derived.Test.YtpbaobmegomfpaaDoorMath4
import Derived.WalkKit
import Derived.WalkSpells
import Derived.WalkLawsBesides
import Derived.Deep.QuietTactic
import Derived.BigQuiet
import Derived.Lib.Hide
import Derived.IntWalk
namespace Go.Proofs.YtpbaobmegomfpaaDoor
open Go.RowKit
set_option linter.unusedVariables false
set_option maxRecDepth 100000

/-- the table of the leads -/
structure Leads (w : World) : Prop where
  room : 1 < w.heap.size
  cell : ∀ k, k ≤ 4 → w.cell? ⟨1, k, none⟩ = some (.string (leadAt k))
theorem Leads.below {w w' : World} (h : Leads w) (hb : Below w.heap.size w w') : Leads w' :=
  ⟨Nat.lt_of_lt_of_le h.room hb.size, fun k hk => (hb.cell (p := ⟨1, k, none⟩) h.room).trans (h.cell k hk)⟩
theorem Leads.alloc {w : World} (h : Leads w) (o : Obj) : Leads (w.alloc o) := h.below ((Below.refl _ _).alloc (Nat.le_refl _) _)

set_option maxHeartbeats 1000000 in
theorem tell_kind (k : Int) (x : ByteArray) (st : Int) (w : World) (h : k < 1 ∨ 4 < k ∨ st < 0 ∨ 2 < st) :
    Calls Tryd.prog 17 #[.agg #[.int .i64 k, .string x, .int .i64 st]] w fun e w' => e = .returned (.tuple #[.string ⟨#[]⟩, .int .i64 3]) ∧ Below w.heap.size w w' := by
  by_cases h1 : k < 1
  · have d1 : decide (k < 1) = true := decide_eq_true h1
    clear h
    go_enter Tryd.func17, Tryd.ntmps17
    go_wp2
    go_ret2
    exact ⟨rfl, (Below.refl _ _).alloc (Nat.le_refl _) _⟩
  · have d1 : decide (k < 1) = false := decide_eq_false h1
    by_cases h2 : 4 < k
    · have d2 : decide (4 < k) = true := decide_eq_true h2
      clear h h1
      go_enter Tryd.func17, Tryd.ntmps17
      go_wp2
      go_ret2
      exact ⟨rfl, (Below.refl _ _).alloc (Nat.le_refl _) _⟩
    · have d2 : decide (4 < k) = false := decide_eq_false h2
      by_cases h3 : st < 0
      · have d3 : decide (st < 0) = true := decide_eq_true h3
        clear h h1 h2
        go_enter Tryd.func17, Tryd.ntmps17
        go_wp2
        go_ret2
        exact ⟨rfl, (Below.refl _ _).alloc (Nat.le_refl _) _⟩
      · have d3 : decide (st < 0) = false := decide_eq_false h3
        have d4 : decide (2 < st) = true := decide_eq_true (by omega)
        clear h h1 h2 h3
        go_enter Tryd.func17, Tryd.ntmps17
        go_wp2
        go_ret2
        exact ⟨rfl, (Below.refl _ _).alloc (Nat.le_refl _) _⟩

set_option maxHeartbeats 2000000 in
theorem tell_form (k : Int) (x : ByteArray) (st : Int) (w : World) (h : ¬ (k < 1 ∨ 4 < k ∨ st < 0 ∨ 2 < st)) (h2 : (decide (k = 2 ∨ k = 4) == x.toList.isEmpty) = true ∨ 60 < x.size) :
    Calls Tryd.prog 17 #[.agg #[.int .i64 k, .string x, .int .i64 st]] w fun e w' => e = .returned (.tuple #[.string ⟨#[]⟩, .int .i64 4]) ∧ Below w.heap.size w w' := by
  have d3 : decide (st < 0) = false := decide_eq_false (by omega)
  have d4 : decide (2 < st) = false := decide_eq_false (by omega)
  have hk : k = 1 ∨ k = 2 ∨ k = 3 ∨ k = 4 := by omega
  clear h
  cases e1 : x.toList.isEmpty
  · by_cases hl : 60 < x.size
    · have d5 : decide (60 < (x.size : Int)) = true := decide_eq_true (by omega)
      clear h2
      rcases hk with rfl | rfl | rfl | rfl
      all_goals
        go_enter Tryd.func17, Tryd.ntmps17
        go_wp2
        go_ret2
        exact ⟨rfl, (Below.refl _ _).alloc (Nat.le_refl _) _⟩
    · rw [e1] at h2
      rcases hk with rfl | rfl | rfl | rfl
      case inr.inl => simp at h2; omega
      case inr.inr.inr => simp at h2; omega
      all_goals
        clear h2
        go_enter Tryd.func17, Tryd.ntmps17
        go_wp2
        go_ret2
        exact ⟨rfl, (Below.refl _ _).alloc (Nat.le_refl _) _⟩
  · rw [e1] at h2
    have hz := isEmpty_size e1
    rcases hk with rfl | rfl | rfl | rfl
    case inl => simp at h2; omega
    case inr.inr.inl => simp at h2; omega
    all_goals
      clear h2
      go_enter Tryd.func17, Tryd.ntmps17
      go_wp2
      go_ret2
      exact ⟨rfl, (Below.refl _ _).alloc (Nat.le_refl _) _⟩

theorem mark_cut : ∀ st, st ≤ 2 → (⟨#[73, 84, 70]⟩ : ByteArray).extract st (st + 1) = markAt st := by decide
theorem mark_size : ∀ st, st ≤ 2 → ((⟨#[73, 84, 70]⟩ : ByteArray).extract st (st + 1)).size = 1 := by decide
theorem lead_size : ∀ k, k ≤ 4 → (leadAt k).size ≤ 4 := by decide
theorem tell_sum (st k : Nat) (hst : st ≤ 2) (hk : k ≤ 4) (x : ByteArray) (hs : x.size ≤ 60) :
    ((⟨#[73, 84, 70]⟩ : ByteArray).extract st (st + 1)).size + (leadAt k).size ≤ 9223372036854775807 ∧ ((⟨#[73, 84, 70]⟩ : ByteArray).extract st (st + 1) ++ leadAt k).size + x.size ≤ 9223372036854775807 := by
  have h1 := mark_size st hst
  have h2 := lead_size k hk
  rw [ByteArray.size_append]
  omega

set_option maxHeartbeats 1000000 in
theorem tell_1_0 (x : ByteArray) (w : World) (hL : Leads w) (hs : x.size ≤ 60) (e1 : x.toList.isEmpty = true) :
    Calls Tryd.prog 17 #[.agg #[.int .i64 1, .string x, .int .i64 0]] w fun e w' => e = .returned (.tuple #[.string (tellT 1 0 x), .int .i64 0]) ∧ Below w.heap.size w w' := by
  have ht := Lib.hid (show tellT 1 0 x = ((⟨#[73, 84, 70]⟩ : ByteArray).extract 0 1 ++ leadAt 1) ++ x by unfold tellT; rw [← mark_cut 0 (by omega)])
  have hz := tell_sum 0 1 (by omega) (by omega) x hs
  have a1 := fun W => run_string_add_sum (P := Tryd.prog) W ((⟨#[73, 84, 70]⟩ : ByteArray).extract 0 1) (leadAt 1) hz.1
  have a2 := fun W => run_string_add_sum (P := Tryd.prog) W ((⟨#[73, 84, 70]⟩ : ByteArray).extract 0 1 ++ leadAt 1) x hz.2
  have d5 : decide (60 < (x.size : Int)) = false := decide_eq_false (by omega)
  have hc := hL.cell 1 (by omega)
  have hroom := hL.room
  have hroom' : 1 ≠ w.heap.size := by omega
  have g1 : IntKind.i64.wrap 1 = 1 := rfl
  clear hL hz
  go_enter Tryd.func17, Tryd.ntmps17
  go_wp2
  go_quiet (fail)
  go_wp2
  go_ret2
  exact ⟨by rw [ht.out]; rfl, below_drewN ((Below.refl _ _).alloc (Nat.le_refl _) _) nq⟩

set_option maxHeartbeats 1000000 in
theorem tell_1_1 (x : ByteArray) (w : World) (hL : Leads w) (hs : x.size ≤ 60) (e1 : x.toList.isEmpty = true) :
    Calls Tryd.prog 17 #[.agg #[.int .i64 1, .string x, .int .i64 1]] w fun e w' => e = .returned (.tuple #[.string (tellT 1 1 x), .int .i64 0]) ∧ Below w.heap.size w w' := by
  have ht := Lib.hid (show tellT 1 1 x = ((⟨#[73, 84, 70]⟩ : ByteArray).extract 1 2 ++ leadAt 1) ++ x by unfold tellT; rw [← mark_cut 1 (by omega)])
  have hz := tell_sum 1 1 (by omega) (by omega) x hs
  have a1 := fun W => run_string_add_sum (P := Tryd.prog) W ((⟨#[73, 84, 70]⟩ : ByteArray).extract 1 2) (leadAt 1) hz.1
  have a2 := fun W => run_string_add_sum (P := Tryd.prog) W ((⟨#[73, 84, 70]⟩ : ByteArray).extract 1 2 ++ leadAt 1) x hz.2
  have d5 : decide (60 < (x.size : Int)) = false := decide_eq_false (by omega)
  have hc := hL.cell 1 (by omega)
  have hroom := hL.room
  have hroom' : 1 ≠ w.heap.size := by omega
  have g1 : IntKind.i64.wrap 2 = 2 := rfl
  clear hL hz
  go_enter Tryd.func17, Tryd.ntmps17
  go_wp2
  go_quiet (fail)
  go_wp2
  go_ret2
  exact ⟨by rw [ht.out]; rfl, below_drewN ((Below.refl _ _).alloc (Nat.le_refl _) _) nq⟩

set_option maxHeartbeats 1000000 in
theorem tell_1_2 (x : ByteArray) (w : World) (hL : Leads w) (hs : x.size ≤ 60) (e1 : x.toList.isEmpty = true) :
    Calls Tryd.prog 17 #[.agg #[.int .i64 1, .string x, .int .i64 2]] w fun e w' => e = .returned (.tuple #[.string (tellT 1 2 x), .int .i64 0]) ∧ Below w.heap.size w w' := by
  have ht := Lib.hid (show tellT 1 2 x = ((⟨#[73, 84, 70]⟩ : ByteArray).extract 2 3 ++ leadAt 1) ++ x by unfold tellT; rw [← mark_cut 2 (by omega)])
  have hz := tell_sum 2 1 (by omega) (by omega) x hs
  have a1 := fun W => run_string_add_sum (P := Tryd.prog) W ((⟨#[73, 84, 70]⟩ : ByteArray).extract 2 3) (leadAt 1) hz.1
  have a2 := fun W => run_string_add_sum (P := Tryd.prog) W ((⟨#[73, 84, 70]⟩ : ByteArray).extract 2 3 ++ leadAt 1) x hz.2
  have d5 : decide (60 < (x.size : Int)) = false := decide_eq_false (by omega)
  have hc := hL.cell 1 (by omega)
  have hroom := hL.room
  have hroom' : 1 ≠ w.heap.size := by omega
  have g1 : IntKind.i64.wrap 3 = 3 := rfl
  clear hL hz
  go_enter Tryd.func17, Tryd.ntmps17
  go_wp2
  go_quiet (fail)
  go_wp2
  go_ret2
  exact ⟨by rw [ht.out]; rfl, below_drewN ((Below.refl _ _).alloc (Nat.le_refl _) _) nq⟩

set_option maxHeartbeats 1000000 in
theorem tell_2_0 (x : ByteArray) (w : World) (hL : Leads w) (hs : x.size ≤ 60) (e1 : x.toList.isEmpty = false) :
    Calls Tryd.prog 17 #[.agg #[.int .i64 2, .string x, .int .i64 0]] w fun e w' => e = .returned (.tuple #[.string (tellT 2 0 x), .int .i64 0]) ∧ Below w.heap.size w w' := by
  have ht := Lib.hid (show tellT 2 0 x = ((⟨#[73, 84, 70]⟩ : ByteArray).extract 0 1 ++ leadAt 2) ++ x by unfold tellT; rw [← mark_cut 0 (by omega)])
  have hz := tell_sum 0 2 (by omega) (by omega) x hs
  have a1 := fun W => run_string_add_sum (P := Tryd.prog) W ((⟨#[73, 84, 70]⟩ : ByteArray).extract 0 1) (leadAt 2) hz.1
  have a2 := fun W => run_string_add_sum (P := Tryd.prog) W ((⟨#[73, 84, 70]⟩ : ByteArray).extract 0 1 ++ leadAt 2) x hz.2
  have d5 : decide (60 < (x.size : Int)) = false := decide_eq_false (by omega)
  have hc := hL.cell 2 (by omega)
  have hroom := hL.room
  have hroom' : 1 ≠ w.heap.size := by omega
  have g1 : IntKind.i64.wrap 1 = 1 := rfl
  clear hL hz
  go_enter Tryd.func17, Tryd.ntmps17
  go_wp2
  go_quiet (fail)
  go_wp2
  go_ret2
  exact ⟨by rw [ht.out]; rfl, below_drewN ((Below.refl _ _).alloc (Nat.le_refl _) _) nq⟩

set_option maxHeartbeats 1000000 in
theorem tell_2_1 (x : ByteArray) (w : World) (hL : Leads w) (hs : x.size ≤ 60) (e1 : x.toList.isEmpty = false) :
    Calls Tryd.prog 17 #[.agg #[.int .i64 2, .string x, .int .i64 1]] w fun e w' => e = .returned (.tuple #[.string (tellT 2 1 x), .int .i64 0]) ∧ Below w.heap.size w w' := by
  have ht := Lib.hid (show tellT 2 1 x = ((⟨#[73, 84, 70]⟩ : ByteArray).extract 1 2 ++ leadAt 2) ++ x by unfold tellT; rw [← mark_cut 1 (by omega)])
  have hz := tell_sum 1 2 (by omega) (by omega) x hs
  have a1 := fun W => run_string_add_sum (P := Tryd.prog) W ((⟨#[73, 84, 70]⟩ : ByteArray).extract 1 2) (leadAt 2) hz.1
  have a2 := fun W => run_string_add_sum (P := Tryd.prog) W ((⟨#[73, 84, 70]⟩ : ByteArray).extract 1 2 ++ leadAt 2) x hz.2
  have d5 : decide (60 < (x.size : Int)) = false := decide_eq_false (by omega)
  have hc := hL.cell 2 (by omega)
  have hroom := hL.room
  have hroom' : 1 ≠ w.heap.size := by omega
  have g1 : IntKind.i64.wrap 2 = 2 := rfl
  clear hL hz
  go_enter Tryd.func17, Tryd.ntmps17
  go_wp2
  go_quiet (fail)
  go_wp2
  go_ret2
  exact ⟨by rw [ht.out]; rfl, below_drewN ((Below.refl _ _).alloc (Nat.le_refl _) _) nq⟩

set_option maxHeartbeats 1000000 in
theorem tell_2_2 (x : ByteArray) (w : World) (hL : Leads w) (hs : x.size ≤ 60) (e1 : x.toList.isEmpty = false) :
    Calls Tryd.prog 17 #[.agg #[.int .i64 2, .string x, .int .i64 2]] w fun e w' => e = .returned (.tuple #[.string (tellT 2 2 x), .int .i64 0]) ∧ Below w.heap.size w w' := by
  have ht := Lib.hid (show tellT 2 2 x = ((⟨#[73, 84, 70]⟩ : ByteArray).extract 2 3 ++ leadAt 2) ++ x by unfold tellT; rw [← mark_cut 2 (by omega)])
  have hz := tell_sum 2 2 (by omega) (by omega) x hs
  have a1 := fun W => run_string_add_sum (P := Tryd.prog) W ((⟨#[73, 84, 70]⟩ : ByteArray).extract 2 3) (leadAt 2) hz.1
  have a2 := fun W => run_string_add_sum (P := Tryd.prog) W ((⟨#[73, 84, 70]⟩ : ByteArray).extract 2 3 ++ leadAt 2) x hz.2
  have d5 : decide (60 < (x.size : Int)) = false := decide_eq_false (by omega)
  have hc := hL.cell 2 (by omega)
  have hroom := hL.room
  have hroom' : 1 ≠ w.heap.size := by omega
  have g1 : IntKind.i64.wrap 3 = 3 := rfl
  clear hL hz
  go_enter Tryd.func17, Tryd.ntmps17
  go_wp2
  go_quiet (fail)
  go_wp2
  go_ret2
  exact ⟨by rw [ht.out]; rfl, below_drewN ((Below.refl _ _).alloc (Nat.le_refl _) _) nq⟩

set_option maxHeartbeats 1000000 in
theorem tell_3_0 (x : ByteArray) (w : World) (hL : Leads w) (hs : x.size ≤ 60) (e1 : x.toList.isEmpty = true) :
    Calls Tryd.prog 17 #[.agg #[.int .i64 3, .string x, .int .i64 0]] w fun e w' => e = .returned (.tuple #[.string (tellT 3 0 x), .int .i64 0]) ∧ Below w.heap.size w w' := by
  have ht := Lib.hid (show tellT 3 0 x = ((⟨#[73, 84, 70]⟩ : ByteArray).extract 0 1 ++ leadAt 3) ++ x by unfold tellT; rw [← mark_cut 0 (by omega)])
  have hz := tell_sum 0 3 (by omega) (by omega) x hs
  have a1 := fun W => run_string_add_sum (P := Tryd.prog) W ((⟨#[73, 84, 70]⟩ : ByteArray).extract 0 1) (leadAt 3) hz.1
  have a2 := fun W => run_string_add_sum (P := Tryd.prog) W ((⟨#[73, 84, 70]⟩ : ByteArray).extract 0 1 ++ leadAt 3) x hz.2
  have d5 : decide (60 < (x.size : Int)) = false := decide_eq_false (by omega)
  have hc := hL.cell 3 (by omega)
  have hroom := hL.room
  have hroom' : 1 ≠ w.heap.size := by omega
  have g1 : IntKind.i64.wrap 1 = 1 := rfl
  clear hL hz
  go_enter Tryd.func17, Tryd.ntmps17
  go_wp2
  go_quiet (fail)
  go_wp2
  go_ret2
  exact ⟨by rw [ht.out]; rfl, below_drewN ((Below.refl _ _).alloc (Nat.le_refl _) _) nq⟩

set_option maxHeartbeats 1000000 in
theorem tell_3_1 (x : ByteArray) (w : World) (hL : Leads w) (hs : x.size ≤ 60) (e1 : x.toList.isEmpty = true) :
    Calls Tryd.prog 17 #[.agg #[.int .i64 3, .string x, .int .i64 1]] w fun e w' => e = .returned (.tuple #[.string (tellT 3 1 x), .int .i64 0]) ∧ Below w.heap.size w w' := by
  have ht := Lib.hid (show tellT 3 1 x = ((⟨#[73, 84, 70]⟩ : ByteArray).extract 1 2 ++ leadAt 3) ++ x by unfold tellT; rw [← mark_cut 1 (by omega)])
  have hz := tell_sum 1 3 (by omega) (by omega) x hs
  have a1 := fun W => run_string_add_sum (P := Tryd.prog) W ((⟨#[73, 84, 70]⟩ : ByteArray).extract 1 2) (leadAt 3) hz.1
  have a2 := fun W => run_string_add_sum (P := Tryd.prog) W ((⟨#[73, 84, 70]⟩ : ByteArray).extract 1 2 ++ leadAt 3) x hz.2
  have d5 : decide (60 < (x.size : Int)) = false := decide_eq_false (by omega)
  have hc := hL.cell 3 (by omega)
  have hroom := hL.room
  have hroom' : 1 ≠ w.heap.size := by omega
  have g1 : IntKind.i64.wrap 2 = 2 := rfl
  clear hL hz
  go_enter Tryd.func17, Tryd.ntmps17
  go_wp2
  go_quiet (fail)
  go_wp2
  go_ret2
  exact ⟨by rw [ht.out]; rfl, below_drewN ((Below.refl _ _).alloc (Nat.le_refl _) _) nq⟩

set_option maxHeartbeats 1000000 in
theorem tell_3_2 (x : ByteArray) (w : World) (hL : Leads w) (hs : x.size ≤ 60) (e1 : x.toList.isEmpty = true) :
    Calls Tryd.prog 17 #[.agg #[.int .i64 3, .string x, .int .i64 2]] w fun e w' => e = .returned (.tuple #[.string (tellT 3 2 x), .int .i64 0]) ∧ Below w.heap.size w w' := by
  have ht := Lib.hid (show tellT 3 2 x = ((⟨#[73, 84, 70]⟩ : ByteArray).extract 2 3 ++ leadAt 3) ++ x by unfold tellT; rw [← mark_cut 2 (by omega)])
  have hz := tell_sum 2 3 (by omega) (by omega) x hs
  have a1 := fun W => run_string_add_sum (P := Tryd.prog) W ((⟨#[73, 84, 70]⟩ : ByteArray).extract 2 3) (leadAt 3) hz.1
  have a2 := fun W => run_string_add_sum (P := Tryd.prog) W ((⟨#[73, 84, 70]⟩ : ByteArray).extract 2 3 ++ leadAt 3) x hz.2
  have d5 : decide (60 < (x.size : Int)) = false := decide_eq_false (by omega)
  have hc := hL.cell 3 (by omega)
  have hroom := hL.room
  have hroom' : 1 ≠ w.heap.size := by omega
  have g1 : IntKind.i64.wrap 3 = 3 := rfl
  clear hL hz
  go_enter Tryd.func17, Tryd.ntmps17
  go_wp2
  go_quiet (fail)
  go_wp2
  go_ret2
  exact ⟨by rw [ht.out]; rfl, below_drewN ((Below.refl _ _).alloc (Nat.le_refl _) _) nq⟩

set_option maxHeartbeats 1000000 in
theorem tell_4_0 (x : ByteArray) (w : World) (hL : Leads w) (hs : x.size ≤ 60) (e1 : x.toList.isEmpty = false) :
    Calls Tryd.prog 17 #[.agg #[.int .i64 4, .string x, .int .i64 0]] w fun e w' => e = .returned (.tuple #[.string (tellT 4 0 x), .int .i64 0]) ∧ Below w.heap.size w w' := by
  have ht := Lib.hid (show tellT 4 0 x = ((⟨#[73, 84, 70]⟩ : ByteArray).extract 0 1 ++ leadAt 4) ++ x by unfold tellT; rw [← mark_cut 0 (by omega)])
  have hz := tell_sum 0 4 (by omega) (by omega) x hs
  have a1 := fun W => run_string_add_sum (P := Tryd.prog) W ((⟨#[73, 84, 70]⟩ : ByteArray).extract 0 1) (leadAt 4) hz.1
  have a2 := fun W => run_string_add_sum (P := Tryd.prog) W ((⟨#[73, 84, 70]⟩ : ByteArray).extract 0 1 ++ leadAt 4) x hz.2
  have d5 : decide (60 < (x.size : Int)) = false := decide_eq_false (by omega)
  have hc := hL.cell 4 (by omega)
  have hroom := hL.room
  have hroom' : 1 ≠ w.heap.size := by omega
  have g1 : IntKind.i64.wrap 1 = 1 := rfl
  clear hL hz
  go_enter Tryd.func17, Tryd.ntmps17
  go_wp2
  go_quiet (fail)
  go_wp2
  go_ret2
  exact ⟨by rw [ht.out]; rfl, below_drewN ((Below.refl _ _).alloc (Nat.le_refl _) _) nq⟩

set_option maxHeartbeats 1000000 in
theorem tell_4_1 (x : ByteArray) (w : World) (hL : Leads w) (hs : x.size ≤ 60) (e1 : x.toList.isEmpty = false) :
    Calls Tryd.prog 17 #[.agg #[.int .i64 4, .string x, .int .i64 1]] w fun e w' => e = .returned (.tuple #[.string (tellT 4 1 x), .int .i64 0]) ∧ Below w.heap.size w w' := by
  have ht := Lib.hid (show tellT 4 1 x = ((⟨#[73, 84, 70]⟩ : ByteArray).extract 1 2 ++ leadAt 4) ++ x by unfold tellT; rw [← mark_cut 1 (by omega)])
  have hz := tell_sum 1 4 (by omega) (by omega) x hs
  have a1 := fun W => run_string_add_sum (P := Tryd.prog) W ((⟨#[73, 84, 70]⟩ : ByteArray).extract 1 2) (leadAt 4) hz.1
  have a2 := fun W => run_string_add_sum (P := Tryd.prog) W ((⟨#[73, 84, 70]⟩ : ByteArray).extract 1 2 ++ leadAt 4) x hz.2
  have d5 : decide (60 < (x.size : Int)) = false := decide_eq_false (by omega)
  have hc := hL.cell 4 (by omega)
  have hroom := hL.room
  have hroom' : 1 ≠ w.heap.size := by omega
  have g1 : IntKind.i64.wrap 2 = 2 := rfl
  clear hL hz
  go_enter Tryd.func17, Tryd.ntmps17
  go_wp2
  go_quiet (fail)
  go_wp2
  go_ret2
  exact ⟨by rw [ht.out]; rfl, below_drewN ((Below.refl _ _).alloc (Nat.le_refl _) _) nq⟩

set_option maxHeartbeats 1000000 in
theorem tell_4_2 (x : ByteArray) (w : World) (hL : Leads w) (hs : x.size ≤ 60) (e1 : x.toList.isEmpty = false) :
    Calls Tryd.prog 17 #[.agg #[.int .i64 4, .string x, .int .i64 2]] w fun e w' => e = .returned (.tuple #[.string (tellT 4 2 x), .int .i64 0]) ∧ Below w.heap.size w w' := by
  have ht := Lib.hid (show tellT 4 2 x = ((⟨#[73, 84, 70]⟩ : ByteArray).extract 2 3 ++ leadAt 4) ++ x by unfold tellT; rw [← mark_cut 2 (by omega)])
  have hz := tell_sum 2 4 (by omega) (by omega) x hs
  have a1 := fun W => run_string_add_sum (P := Tryd.prog) W ((⟨#[73, 84, 70]⟩ : ByteArray).extract 2 3) (leadAt 4) hz.1
  have a2 := fun W => run_string_add_sum (P := Tryd.prog) W ((⟨#[73, 84, 70]⟩ : ByteArray).extract 2 3 ++ leadAt 4) x hz.2
  have d5 : decide (60 < (x.size : Int)) = false := decide_eq_false (by omega)
  have hc := hL.cell 4 (by omega)
  have hroom := hL.room
  have hroom' : 1 ≠ w.heap.size := by omega
  have g1 : IntKind.i64.wrap 3 = 3 := rfl
  clear hL hz
  go_enter Tryd.func17, Tryd.ntmps17
  go_wp2
  go_quiet (fail)
  go_wp2
  go_ret2
  exact ⟨by rw [ht.out]; rfl, below_drewN ((Below.refl _ _).alloc (Nat.le_refl _) _) nq⟩

theorem tell_ok (k st : Nat) (x : ByteArray) (w : World) (hL : Leads w) (h : ¬ ((k : Int) < 1 ∨ 4 < (k : Int) ∨ (st : Int) < 0 ∨ 2 < (st : Int))) (h2 : ¬ ((decide ((k : Int) = 2 ∨ (k : Int) = 4) == x.toList.isEmpty) = true ∨ 60 < x.size)) :
    Calls Tryd.prog 17 #[.agg #[.int .i64 k, .string x, .int .i64 st]] w fun e w' => e = .returned (.tuple #[.string (tellT k st x), .int .i64 0]) ∧ Below w.heap.size w w' := by
  have hs : x.size ≤ 60 := by
    by_cases hl : 60 < x.size
    · exact absurd (.inr hl) h2
    · omega
  have hq : (decide ((k : Int) = 2 ∨ (k : Int) = 4) == x.toList.isEmpty) = false := by
    cases hq : (decide ((k : Int) = 2 ∨ (k : Int) = 4) == x.toList.isEmpty)
    · rfl
    · exact absurd (.inl hq) h2
  have hst : st = 0 ∨ st = 1 ∨ st = 2 := by omega
  have hk : k = 1 ∨ k = 2 ∨ k = 3 ∨ k = 4 := by omega
  clear h h2
  rcases hk with rfl | rfl | rfl | rfl
  · have e1 : x.toList.isEmpty = true := by simpa using hq
    rcases hst with rfl | rfl | rfl
    · exact tell_1_0 x w hL hs e1
    · exact tell_1_1 x w hL hs e1
    · exact tell_1_2 x w hL hs e1
  · have e1 : x.toList.isEmpty = false := by simpa using hq
    rcases hst with rfl | rfl | rfl
    · exact tell_2_0 x w hL hs e1
    · exact tell_2_1 x w hL hs e1
    · exact tell_2_2 x w hL hs e1
  · have e1 : x.toList.isEmpty = true := by simpa using hq
    rcases hst with rfl | rfl | rfl
    · exact tell_3_0 x w hL hs e1
    · exact tell_3_1 x w hL hs e1
    · exact tell_3_2 x w hL hs e1
  · have e1 : x.toList.isEmpty = false := by simpa using hq
    rcases hst with rfl | rfl | rfl
    · exact tell_4_0 x w hL hs e1
    · exact tell_4_1 x w hL hs e1
    · exact tell_4_2 x w hL hs e1

end Go.Proofs.YtpbaobmegomfpaaDoor
