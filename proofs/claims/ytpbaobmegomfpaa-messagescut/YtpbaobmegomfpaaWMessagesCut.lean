/-
  The walk of the law MessagesCut.
-/
import Derived.Test.YtpbaobmegomfpaaSay3
namespace Go.Proofs.Ytpbaobmegomfpaa
open Go.RowKit
set_option linter.unusedVariables false
set_option maxRecDepth 100000

set_option maxHeartbeats 1000000 in
theorem walk_MessagesCut (a : Int) (s t : ByteArray) (c : Int) (ha : (Lit.int .u8 a).wf = true) (hs : s.size ≤ 140737488351232) (ht : t.size ≤ 140737488351232) (hc : (Lit.int .i64 c).wf = true) (w : World) :
    Calls Try.prog 6 #[.int .u8 a, .string s, .string t, .int .i64 c] w fun e w' => e = .returned (.bool true) ∧ Below w.heap.size w w' := by
  obtain ⟨k, rfl⟩ := u8_of ha
  obtain ⟨hc1, hc2⟩ := i64_bd hc
  go_enter Try.func6, Try.ntmps6
  go_wp2_with fail
  have hT : (s.extract 0 (min (s.size : Int) 120).toNat).size ≤ 120 := by rw [ByteArray.size_extract]; omega
  generalize s.extract 0 (min (s.size : Int) 120).toNat = T at hT ⊢
  refine (pack_any k T _ hT).mono ?_
  rintro e w1 ⟨rfl, hb⟩
  have hms := msg_size k T
  go_wp2_with fail
  refine (unpack_msg k T t _ (by omega) ht).mono ?_
  rintro e w2 ⟨rfl, hb2⟩
  go_wp2_with fail
  refine (picked_any c _ _ hc1 hc2 (by omega) (by omega)).mono ?_
  obtain ⟨p, hp, hp2⟩ : ∃ p : Nat, pickI c (max 1 ((T.size : Int) + 2)) = (p : Int) ∧ p < T.size + 2 := by
    have := pickI_bd c (m := max 1 ((T.size : Int) + 2)) (by omega)
    exact ⟨(pickI c (max 1 ((T.size : Int) + 2))).toNat, by omega, by omega⟩
  rw [hp]
  clear hp
  rintro e w3 ⟨rfl, rfl⟩
  have hp3 : (p : Int) ≤ (T.size : Int) + 2 := by omega
  go_wp2_with fail
  refine (unpack_part k T p _ (by omega) hp2).mono ?_
  rintro e w4 ⟨rfl, rfl⟩
  have hq : ((2 : Int) + (T.size : Int) == (T.size : Int) + 2) = true := by simp; omega
  go_wp2
  go_ret
  exact ⟨rfl, hb.trans (hb2.mono hb.size)⟩

end Go.Proofs.Ytpbaobmegomfpaa
