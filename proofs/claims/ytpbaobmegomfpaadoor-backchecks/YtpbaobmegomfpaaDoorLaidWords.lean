/-
  The table of the words, out of a row's list.
-/
import Derived.Test.YtpbaobmegomfpaaDoorLaid
import Derived.Test.YtpbaobmegomfpaaDoorSay4
namespace Go.Proofs.YtpbaobmegomfpaaDoor
open Go.RowKit
set_option linter.unusedVariables false

theorem words_of {l : List (String × DataW Unit)} {w : World} (h : laidMet Tryd.prog l w) (hin : ("tillerman/say.words", DataW.agg ((List.range 12).map fun k => .lit (.string (wordL k)))) ∈ l) : Words w := by
  have h2 : ("tillerman/say.words", DataW.agg (((List.range 12).map wordL).map fun s => .lit (.string s))) ∈ l := by
    rw [List.map_map]; exact hin
  obtain ⟨h3, h4⟩ := tab_of (P := Tryd.prog) (g := 0) (t := 53) (e := 9) (m := 12) (by kernel_rfl) (by kernel_rfl) Tryd.underlying53 Tryd.underlying9 (by kernel_rfl) (by kernel_rfl) h h2
  refine ⟨h3, fun k hk => ?_⟩
  rw [h4 k (by simp; omega)]
  have : ((List.range 12).map wordL).getD k [] = wordL k := by
    simp [List.getD, show k < 12 by omega]
  rw [this]; rfl

end Go.Proofs.YtpbaobmegomfpaaDoor
