/-
  The walk of the law TellsApart.
-/
import Derived.Test.YtpbaobmegomfpaaDoorApart1
import Derived.Test.YtpbaobmegomfpaaDoorApart2
import Derived.Test.YtpbaobmegomfpaaDoorApart3
namespace Go.Proofs.YtpbaobmegomfpaaDoor
open Go.RowKit
set_option linter.unusedVariables false

theorem walk_TellsApart (k l : Int) (s t : ByteArray) (i j : Int) (hk : (Lit.int .i64 k).wf = true) (hl : (Lit.int .i64 l).wf = true) (hs : s.size ≤ maxLen) (ht : t.size ≤ maxLen) (hi : (Lit.int .i64 i).wf = true) (hj : (Lit.int .i64 j).wf = true) (w : World) (hL : Leads w) :
    Calls Tryd.prog 9 #[.int .i64 k, .int .i64 l, .string s, .string t, .int .i64 i, .int .i64 j] w fun e w' => e = .returned (.bool true) ∧ Below w.heap.size w w' := by
  obtain ⟨hk1, hk2⟩ := i64_bd hk
  obtain ⟨hl1, hl2⟩ := i64_bd hl
  obtain ⟨hi1, hi2⟩ := i64_bd hi
  obtain ⟨hj1, hj2⟩ := i64_bd hj
  obtain ⟨a, ha, ha4⟩ := pick_nat k 4 (by omega)
  obtain ⟨b, hb, hb4⟩ := pick_nat l 4 (by omega)
  obtain ⟨c, hc, hc3⟩ := pick_nat i 3 (by omega)
  obtain ⟨d, hd, hd3⟩ := pick_nat j 3 (by omega)
  have A : (a = 1 ∧ s.size ≤ 20) ∨ (a = 1 ∧ ¬ s.size ≤ 20) ∨ (a = 3 ∧ s.size ≤ 20) ∨ (a = 3 ∧ ¬ s.size ≤ 20) ∨ ¬ (a = 1 ∨ a = 3) := by omega
  have B : (b = 1 ∧ t.size ≤ 20) ∨ (b = 1 ∧ ¬ t.size ≤ 20) ∨ (b = 3 ∧ t.size ≤ 20) ∨ (b = 3 ∧ ¬ t.size ≤ 20) ∨ ¬ (b = 1 ∨ b = 3) := by omega
  rcases A with A | A | A | A | A
  · rcases B with B | B | B | B | B
    · exact apart_11 k l s t i j a b c d hk1 hk2 hl1 hl2 hi1 hi2 hj1 hj2 hs ht w hL ha hb hc hd ha4 hb4 hc3 hd3 A B
    · exact apart_12 k l s t i j a b c d hk1 hk2 hl1 hl2 hi1 hi2 hj1 hj2 hs ht w hL ha hb hc hd ha4 hb4 hc3 hd3 A B
    · exact apart_13 k l s t i j a b c d hk1 hk2 hl1 hl2 hi1 hi2 hj1 hj2 hs ht w hL ha hb hc hd ha4 hb4 hc3 hd3 A B
    · exact apart_14 k l s t i j a b c d hk1 hk2 hl1 hl2 hi1 hi2 hj1 hj2 hs ht w hL ha hb hc hd ha4 hb4 hc3 hd3 A B
    · exact apart_10 k l s t i j a b c d hk1 hk2 hl1 hl2 hi1 hi2 hj1 hj2 hs ht w hL ha hb hc hd ha4 hb4 hc3 hd3 A B
  · rcases B with B | B | B | B | B
    · exact apart_21 k l s t i j a b c d hk1 hk2 hl1 hl2 hi1 hi2 hj1 hj2 hs ht w hL ha hb hc hd ha4 hb4 hc3 hd3 A B
    · exact apart_22 k l s t i j a b c d hk1 hk2 hl1 hl2 hi1 hi2 hj1 hj2 hs ht w hL ha hb hc hd ha4 hb4 hc3 hd3 A B
    · exact apart_23 k l s t i j a b c d hk1 hk2 hl1 hl2 hi1 hi2 hj1 hj2 hs ht w hL ha hb hc hd ha4 hb4 hc3 hd3 A B
    · exact apart_24 k l s t i j a b c d hk1 hk2 hl1 hl2 hi1 hi2 hj1 hj2 hs ht w hL ha hb hc hd ha4 hb4 hc3 hd3 A B
    · exact apart_20 k l s t i j a b c d hk1 hk2 hl1 hl2 hi1 hi2 hj1 hj2 hs ht w hL ha hb hc hd ha4 hb4 hc3 hd3 A B
  · rcases B with B | B | B | B | B
    · exact apart_31 k l s t i j a b c d hk1 hk2 hl1 hl2 hi1 hi2 hj1 hj2 hs ht w hL ha hb hc hd ha4 hb4 hc3 hd3 A B
    · exact apart_32 k l s t i j a b c d hk1 hk2 hl1 hl2 hi1 hi2 hj1 hj2 hs ht w hL ha hb hc hd ha4 hb4 hc3 hd3 A B
    · exact apart_33 k l s t i j a b c d hk1 hk2 hl1 hl2 hi1 hi2 hj1 hj2 hs ht w hL ha hb hc hd ha4 hb4 hc3 hd3 A B
    · exact apart_34 k l s t i j a b c d hk1 hk2 hl1 hl2 hi1 hi2 hj1 hj2 hs ht w hL ha hb hc hd ha4 hb4 hc3 hd3 A B
    · exact apart_30 k l s t i j a b c d hk1 hk2 hl1 hl2 hi1 hi2 hj1 hj2 hs ht w hL ha hb hc hd ha4 hb4 hc3 hd3 A B
  · rcases B with B | B | B | B | B
    · exact apart_41 k l s t i j a b c d hk1 hk2 hl1 hl2 hi1 hi2 hj1 hj2 hs ht w hL ha hb hc hd ha4 hb4 hc3 hd3 A B
    · exact apart_42 k l s t i j a b c d hk1 hk2 hl1 hl2 hi1 hi2 hj1 hj2 hs ht w hL ha hb hc hd ha4 hb4 hc3 hd3 A B
    · exact apart_43 k l s t i j a b c d hk1 hk2 hl1 hl2 hi1 hi2 hj1 hj2 hs ht w hL ha hb hc hd ha4 hb4 hc3 hd3 A B
    · exact apart_44 k l s t i j a b c d hk1 hk2 hl1 hl2 hi1 hi2 hj1 hj2 hs ht w hL ha hb hc hd ha4 hb4 hc3 hd3 A B
    · exact apart_40 k l s t i j a b c d hk1 hk2 hl1 hl2 hi1 hi2 hj1 hj2 hs ht w hL ha hb hc hd ha4 hb4 hc3 hd3 A B
  · rcases B with B | B | B | B | B
    · exact apart_01 k l s t i j a b c d hk1 hk2 hl1 hl2 hi1 hi2 hj1 hj2 hs ht w hL ha hb hc hd ha4 hb4 hc3 hd3 A B
    · exact apart_02 k l s t i j a b c d hk1 hk2 hl1 hl2 hi1 hi2 hj1 hj2 hs ht w hL ha hb hc hd ha4 hb4 hc3 hd3 A B
    · exact apart_03 k l s t i j a b c d hk1 hk2 hl1 hl2 hi1 hi2 hj1 hj2 hs ht w hL ha hb hc hd ha4 hb4 hc3 hd3 A B
    · exact apart_04 k l s t i j a b c d hk1 hk2 hl1 hl2 hi1 hi2 hj1 hj2 hs ht w hL ha hb hc hd ha4 hb4 hc3 hd3 A B
    · exact apart_00 k l s t i j a b c d hk1 hk2 hl1 hl2 hi1 hi2 hj1 hj2 hs ht w hL ha hb hc hd ha4 hb4 hc3 hd3 A B

end Go.Proofs.YtpbaobmegomfpaaDoor
