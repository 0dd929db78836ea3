/-
  The table of the leads, out of a row's list.
-/
import Derived.Test.YtpbaobmegomfpaaDoorLaid
import Derived.Test.YtpbaobmegomfpaaDoorSay13
namespace Go.Proofs.YtpbaobmegomfpaaDoor
open Go.RowKit
set_option linter.unusedVariables false

theorem leads_of {l : List (String × DataW Unit)} {w : World} (h : laidMet Tryd.prog l w) (hin : ("tillerman/say.leads", DataW.agg ((List.range 5).map fun k => .lit (.string (leadL k)))) ∈ l) : Leads w := by
  have h2 : ("tillerman/say.leads", DataW.agg (((List.range 5).map leadL).map fun s => .lit (.string s))) ∈ l := by
    rw [List.map_map]; exact hin
  obtain ⟨h3, h4⟩ := tab_of (P := Tryd.prog) (g := 1) (t := 58) (e := 9) (m := 5) (by kernel_rfl) (by kernel_rfl) Tryd.underlying58 Tryd.underlying9 (by kernel_rfl) (by kernel_rfl) h h2
  refine ⟨h3, fun k hk => ?_⟩
  rw [h4 k (by simp; omega)]
  have : ((List.range 5).map leadL).getD k [] = leadL k := by
    simp [List.getD, show k < 5 by omega]
  rw [this]; rfl

end Go.Proofs.YtpbaobmegomfpaaDoor
