/-
  The walk of the law SayShows.
-/
import Derived.Test.YtpbaobmegomfpaaDoorSay11
import Derived.Test.YtpbaobmegomfpaaDoorLaidWords
namespace Go.Proofs.YtpbaobmegomfpaaDoor
open Go.RowKit
set_option linter.unusedVariables false
set_option maxRecDepth 100000

theorem sayShows.laidFacts {W : World} (h : laidMetH Tryd.prog Rows.sayShowsRow.laid W) : Words W := words_of h (by simp [Rows.sayShowsRow, Rows.laid_tillerman_say_words, List.range, List.range.loop, wordL])

set_option maxHeartbeats 400000 in
theorem walk_SayShows (k : Int) (key v : ByteArray) (hk : (Lit.int .i64 k).wf = true) (hs : key.size ≤ maxLen) (hv : v.size ≤ maxLen) (w : World) (hW : Words w) :
    Calls Tryd.prog 4 #[.agg #[.int .i64 k, .string key, .string v]] w fun e w' => e = .returned (.bool true) ∧ Below w.heap.size w w' := by
  have HW := Lib.hid hW
  clear hW
  by_cases h : checkE k key v = 0
  · obtain ⟨n, rfl⟩ : ∃ n : Nat, k = n := ⟨k.toNat, by have := (good_of h).lo; omega⟩
    have H := Lib.hid h
    clear h
    go_enter Tryd.func4, Tryd.ntmps4
    go_wp2_with fail
    refine (show_ok n key v _ (HW.out.alloc _) H.out).mono ?_
    rintro e w1 ⟨rfl, hb⟩
    obtain ⟨_, c0, c1, c2, _⟩ := (Stm.new w n key v 23).below hb
    go_wp2_with fail
    refine (stmtText_ok n key v _ H.out).mono ?_
    rintro e w2 ⟨rfl, hb2⟩
    go_wp2
    go_ret
    exact ⟨by simp, bel_trans (bel_trans ((Below.refl _ _).alloc (Nat.le_refl _) _) hb) hb2⟩
  · have H := Lib.hid h
    clear h
    go_enter Tryd.func4, Tryd.ntmps4
    go_wp2_with fail
    refine (show_no k key v _ hs hv (HW.out.alloc _) H.out).mono ?_
    rintro e w1 ⟨rfl, hb⟩
    obtain ⟨_, c0, c1, c2, _⟩ := (Stm.new w k key v 23).below hb
    go_wp2_with fail
    refine (stmtText_no k key v _ hs hv H.out).mono ?_
    rintro e w2 ⟨rfl, hb2⟩
    go_wp2
    go_ret
    exact ⟨by simp, bel_trans (bel_trans ((Below.refl _ _).alloc (Nat.le_refl _) _) hb) hb2⟩

end Go.Proofs.YtpbaobmegomfpaaDoor
