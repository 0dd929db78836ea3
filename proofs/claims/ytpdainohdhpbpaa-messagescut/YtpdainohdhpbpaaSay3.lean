/-
  The walk of tillermankeep.picked and of the law MessagesCut.
-/
import Derived.Test.YtpdainohdhpbpaaRows
import Derived.Test.YtpdainohdhpbpaaSay2
import Derived.WalkKit
import Derived.WalkSpells
import Derived.WalkLawsBesides
import Derived.Lib.Hide
namespace Go.Proofs.Ytpdainohdhpbpaa
open Go.RowKit
set_option linter.unusedVariables false

theorem i64_bd {a : Int} (h : (Lit.int .i64 a).wf = true) : -9223372036854775808 ≤ a ∧ a ≤ 9223372036854775807 := by
  simpa [Lit.wf, IntKind.min, IntKind.max, IntKind.signed, IntKind.bits] using h

set_option maxHeartbeats 400000 in
theorem picked_any (n m : Int) (w : World) (hn : -9223372036854775808 ≤ n) (hn2 : n ≤ 9223372036854775807) (hm : 0 < m) (hm2 : m ≤ 9223372036854775807) :
    Calls Try.prog 13 #[.int .i64 n, .int .i64 m] w fun e w' => e = .returned (.int .i64 (pickI n m)) ∧ w = w' := by
  have hm0 : (m == 0) = false := beq_eq_false_iff_ne.2 (by omega)
  by_cases h : n < 0
  · have hp := Lib.hid (pickI_neg (m := m) h)
    have h1 : 0 ≤ -(n + 1) := by omega
    go_enter Try.func13, Try.ntmps13
    go_wp2
    go_ret
    exact ⟨ret_int (by rw [hp.out, ← Int.neg_tmod, Int.tmod_eq_emod_of_nonneg h1]), rfl⟩
  · have hp := Lib.hid (pickI_pos (m := m) h)
    go_enter Try.func13, Try.ntmps13
    go_wp2
    go_ret
    exact ⟨by rw [hp.out]; rfl, rfl⟩

/-- a whole message is unpacked, whatever follows it -/
theorem unpack_msg (k : UInt8) (T m : ByteArray) (w : World) (hT : T.size ≤ 255) (hm : m.size ≤ 140737488351232) :
    Calls Try.prog 11 #[.string (msg k T ++ m)] w fun e w' => e = .returned (.tuple #[.int .u8 k.toNat, .string T, .int .i64 ((2 : Int) + (T.size : Int))]) ∧ Below w.heap.size w w' := by
  have hz : (msg k T ++ m).size = T.size + 2 + m.size := by rw [ByteArray.size_append, msg_size]
  have h1 : (msg k T ++ m)[1].toNat = T.size := by
    have := u8_size hT
    rw [msgs_one]; omega
  refine (unpack_ok (msg k T ++ m) w (by unfold maxLen; omega) (by omega) (by omega)).mono fun e w' ⟨he, hb⟩ => ⟨?_, hb⟩
  rw [he, h1, msgs_zero, msgs_text]

/-- a part of a message is not -/
theorem unpack_part (k : UInt8) (T : ByteArray) (p : Nat) (w : World) (hT : T.size ≤ 255) (hp : p < T.size + 2) :
    Calls Try.prog 11 #[.string ((msg k T).extract 0 p)] w fun e w' => e = .returned (.tuple #[.int .u8 0, .string ⟨#[]⟩, .int .i64 0]) ∧ w = w' := by
  have hz := part_size k T hp
  by_cases h2 : p < 2
  · exact unpack_two _ _ (by omega)
  · refine unpack_cut _ _ (by unfold maxLen; omega) (by omega) ?_
    have := u8_size hT
    rw [part_one]; omega

set_option maxHeartbeats 1000000 in
theorem walk_MessagesCut (a : Int) (s t : ByteArray) (c : Int) (ha : (Lit.int .u8 a).wf = true) (hs : s.size ≤ 140737488351232) (ht : t.size ≤ 140737488351232) (hc : (Lit.int .i64 c).wf = true) (w : World) :
    Calls Try.prog 6 #[.int .u8 a, .string s, .string t, .int .i64 c] w fun e w' => e = .returned (.bool true) ∧ Below w.heap.size w w' := by
  obtain ⟨k, rfl⟩ := u8_of ha
  obtain ⟨hc1, hc2⟩ := i64_bd hc
  go_enter Try.func6, Try.ntmps6
  go_wp2_with fail
  have hT : (s.extract 0 (min (s.size : Int) 120).toNat).size ≤ 120 := by rw [ByteArray.size_extract]; omega
  generalize s.extract 0 (min (s.size : Int) 120).toNat = T at hT ⊢
  refine (pack_any k T _ hT).mono ?_
  rintro e w1 ⟨rfl, hb⟩
  have hms := msg_size k T
  go_wp2_with fail
  refine (unpack_msg k T t _ (by omega) ht).mono ?_
  rintro e w2 ⟨rfl, hb2⟩
  go_wp2_with fail
  refine (picked_any c _ _ hc1 hc2 (by omega) (by omega)).mono ?_
  obtain ⟨p, hp, hp2⟩ : ∃ p : Nat, pickI c (max 1 ((T.size : Int) + 2)) = (p : Int) ∧ p < T.size + 2 := by
    have := pickI_bd c (m := max 1 ((T.size : Int) + 2)) (by omega)
    exact ⟨(pickI c (max 1 ((T.size : Int) + 2))).toNat, by omega, by omega⟩
  rw [hp]
  clear hp
  rintro e w3 ⟨rfl, rfl⟩
  have hp3 : (p : Int) ≤ (T.size : Int) + 2 := by omega
  go_wp2_with fail
  refine (unpack_part k T p _ (by omega) hp2).mono ?_
  rintro e w4 ⟨rfl, rfl⟩
  have hq : ((2 : Int) + (T.size : Int) == (T.size : Int) + 2) = true := by simp; omega
  go_wp2
  go_ret
  exact ⟨rfl, hb.trans (hb2.mono hb.size)⟩

end Go.Proofs.Ytpdainohdhpbpaa
