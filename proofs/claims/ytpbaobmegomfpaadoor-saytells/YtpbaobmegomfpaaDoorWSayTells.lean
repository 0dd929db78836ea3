/-
  The walk of the law SayTells.
-/
import Derived.Test.YtpbaobmegomfpaaDoorSay14
import Derived.Test.YtpbaobmegomfpaaDoorLaidLeads
namespace Go.Proofs.YtpbaobmegomfpaaDoor
open Go.RowKit
set_option linter.unusedVariables false
set_option maxRecDepth 100000

theorem sayTells.laidFacts {W : World} (h : laidMetH Tryd.prog Rows.sayTellsRow.laid W) : Leads W := leads_of h (by simp [Rows.sayTellsRow, Rows.laid_tillerman_say_leads, List.range, List.range.loop, leadL])

/-- an answer in memory -/
theorem ans_new (w w' : World) (k : Int) (x : ByteArray) (st : Int) (t : TypeId) (hb : Below (w.alloc (.cells #[.int .i64 k, .string x, .int .i64 st] t)).heap.size (w.alloc (.cells #[.int .i64 k, .string x, .int .i64 st] t)) w') :
    w'.cell? ⟨w.heap.size, 0, none⟩ = some (.int .i64 k) ∧ w'.cell? ⟨w.heap.size, 1, none⟩ = some (.string x) ∧ w'.cell? ⟨w.heap.size, 2, none⟩ = some (.int .i64 st) := by
  refine ⟨(hb.cell (p := ⟨w.heap.size, 0, none⟩) (by simp)).trans ?_, (hb.cell (p := ⟨w.heap.size, 1, none⟩) (by simp)).trans ?_, (hb.cell (p := ⟨w.heap.size, 2, none⟩) (by simp)).trans ?_⟩
  all_goals (rw [World.cell?_alloc_at _ _ _ _ rfl]; rfl)

set_option maxHeartbeats 400000 in
theorem walk_SayTells (k : Int) (x : ByteArray) (st : Int) (hk : (Lit.int .i64 k).wf = true) (hx : x.size ≤ maxLen) (hst : (Lit.int .i64 st).wf = true) (w : World) (hL : Leads w) :
    Calls Tryd.prog 6 #[.agg #[.int .i64 k, .string x, .int .i64 st]] w fun e w' => e = .returned (.bool true) ∧ Below w.heap.size w w' := by
  have HL := Lib.hid hL
  clear hL
  by_cases h : k < 1 ∨ 4 < k ∨ st < 0 ∨ 2 < st
  · have H := Lib.hid h
    clear h
    go_enter Tryd.func6, Tryd.ntmps6
    go_wp2_with fail
    refine (tell_kind k x st _ H.out).mono ?_
    rintro e w1 ⟨rfl, hb⟩
    obtain ⟨c0, c1, c2⟩ := ans_new w w1 k x st _ hb
    go_wp2_with fail
    refine (told_kind k x st _ H.out).mono ?_
    rintro e w2 ⟨rfl, hb2⟩
    go_wp2
    go_ret
    exact ⟨by simp, ((((Below.refl _ _).alloc (Nat.le_refl _) _).trans (hb.mono (by simp))).trans (hb2.mono (by have := hb.size; simp at this; omega)))⟩
  · by_cases h2 : (decide (k = 2 ∨ k = 4) == x.toList.isEmpty) = true ∨ 60 < x.size
    · have H := Lib.hid h
      have H2 := Lib.hid h2
      clear h h2
      go_enter Tryd.func6, Tryd.ntmps6
      go_wp2_with fail
      refine (tell_form k x st _ H.out H2.out).mono ?_
      rintro e w1 ⟨rfl, hb⟩
      obtain ⟨c0, c1, c2⟩ := ans_new w w1 k x st _ hb
      go_wp2_with fail
      refine (told_form k x st _ H.out H2.out).mono ?_
      rintro e w2 ⟨rfl, hb2⟩
      go_wp2
      go_ret
      exact ⟨by simp, ((((Below.refl _ _).alloc (Nat.le_refl _) _).trans (hb.mono (by simp))).trans (hb2.mono (by have := hb.size; simp at this; omega)))⟩
    · obtain ⟨k, rfl⟩ : ∃ n : Nat, k = n := ⟨k.toNat, by omega⟩
      obtain ⟨st, rfl⟩ : ∃ n : Nat, st = n := ⟨st.toNat, by omega⟩
      have H := Lib.hid h
      have H2 := Lib.hid h2
      clear h h2
      go_enter Tryd.func6, Tryd.ntmps6
      go_wp2_with fail
      refine (tell_ok k st x _ (HL.out.alloc _) H.out H2.out).mono ?_
      rintro e w1 ⟨rfl, hb⟩
      obtain ⟨c0, c1, c2⟩ := ans_new w w1 k x st _ hb
      go_wp2_with fail
      refine (told_ok k st x _ H.out H2.out).mono ?_
      rintro e w2 ⟨rfl, hb2⟩
      go_wp2
      go_ret
      exact ⟨by simp, ((((Below.refl _ _).alloc (Nat.le_refl _) _).trans (hb.mono (by simp))).trans (hb2.mono (by have := hb.size; simp at this; omega)))⟩

end Go.Proofs.YtpbaobmegomfpaaDoor
