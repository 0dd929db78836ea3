/-
  The walk of the law SayReads.
-/
import Derived.Test.YtpbaobmegomfpaaDoorSay12
import Derived.Test.YtpbaobmegomfpaaDoorSay10
import Derived.Test.YtpbaobmegomfpaaDoorLaidWords
namespace Go.Proofs.YtpbaobmegomfpaaDoor
open Go.RowKit
set_option linter.unusedVariables false
set_option maxRecDepth 100000

theorem sayReads.laidFacts {W : World} (h : laidMetH Tryd.prog Rows.sayReadsRow.laid W) : Words W := words_of h (by simp [Rows.sayReadsRow, Rows.laid_tillerman_say_words, List.range, List.range.loop, wordL])

set_option maxHeartbeats 400000 in
theorem walk_SayReads (t : ByteArray) (ht : t.size ≤ maxLen) (w : World) (hW : Words w) :
    Calls Tryd.prog 5 #[.string t] w fun e w' => e = .returned (.bool true) ∧ Below w.heap.size w w' := by
  have HW := Lib.hid hW
  clear hW
  by_cases h : readE t = 0
  · have H := Lib.hid h
    clear h
    go_enter Tryd.func5, Tryd.ntmps5
    go_wp2_with fail
    refine (read_ok t _ HW.out H.out).mono ?_
    rintro e w1 ⟨rfl, hb⟩
    go_wp2_with fail
    refine ((of_all t.size t (Nat.le_refl _)).ok H.out _).mono ?_
    rintro e w2 ⟨rfl, hb2⟩
    obtain ⟨cl, c0, c1, c2, _⟩ := (Stm.new w1 (kindN (cutA t)) (cutA (cutB t)) (cutB (cutB t)) 23).below hb2
    have cl' : w1.heap.size ≠ w2.heap.size := by omega
    have bel2 : Below w.heap.size w w2 := bel_trans (hb.alloc hb.size _) hb2
    go_wp2
    go_ret
    exact ⟨rfl, bel2.alloc bel2.size _⟩
  · have H := Lib.hid h
    clear h
    go_enter Tryd.func5, Tryd.ntmps5
    go_wp2_with fail
    refine (read_no t _ HW.out H.out).mono ?_
    rintro e w1 ⟨rfl, hb⟩
    go_wp2_with fail
    refine ((of_all t.size t (Nat.le_refl _)).no H.out _).mono ?_
    rintro e w2 ⟨rfl, hb2⟩
    obtain ⟨cl, c0, c1, c2, _⟩ := (Stm.new w1 0 ⟨#[]⟩ ⟨#[]⟩ 23).below hb2
    have cl' : w1.heap.size ≠ w2.heap.size := by omega
    have bel2 : Below w.heap.size w w2 := bel_trans (hb.alloc hb.size _) hb2
    go_wp2
    go_ret
    exact ⟨by simp, bel2.alloc bel2.size _⟩

end Go.Proofs.YtpbaobmegomfpaaDoor
