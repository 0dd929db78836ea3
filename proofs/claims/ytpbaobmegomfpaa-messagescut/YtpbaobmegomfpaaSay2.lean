/-
  Walks of messages: say.Pack, say.Unpack; the reference's PackedOf and UnpackedOf; strings.Clone.
-/
import Derived.Test.YtpbaobmegomfpaaRows
import Derived.Test.YtpbaobmegomfpaaMath
import Derived.Test.YtpbaobmegomfpaaClone
import Derived.WalkKit
import Derived.WalkSpells
import Derived.WalkLawsBesides
import Derived.Deep.QuietTactic
import Derived.BigQuiet
import Derived.Lib.Hide
import Derived.IntWalk
import Derived.Deep.RegionHeld3
namespace Go.Proofs.Ytpbaobmegomfpaa
open Go.RowKit
set_option linter.unusedVariables false
set_option maxRecDepth 100000

theorem u8_size {n : Nat} (h : n ≤ 255) : ((UInt8.ofNat n).toNat : Int) = n := by
  rw [UInt8.toNat_ofNat', Nat.mod_eq_of_lt (by omega)]

/-- string([]byte{k, byte(n)}) -/
theorem run_two (k : UInt8) (n : Nat) (hn : n ≤ 255) (w : World) :
    (convert 33 9 (.slice (some ⟨w.heap.size, 0, none⟩) 2 2)).run Try.prog (w.alloc (.cells #[.int .u8 k.toNat, .int .u8 n] 5)) = .ok (.string ⟨#[k, UInt8.ofNat n]⟩) (w.alloc (.cells #[.int .u8 k.toNat, .int .u8 n] 5)) := by
  refine run_convert_bytes_back (P := Try.prog) (w.alloc (.cells #[.int .u8 k.toNat, .int .u8 n] 5)) 33 9 5 ⟨w.heap.size, 0, none⟩ 2 [k, UInt8.ofNat n] Try.underlying33 Try.underlying5 Try.underlying9 ?_
  intro j hj
  match j, hj with
  | 0, _ => simp only [List.getElem_cons_zero, Addr.add]; go_simp
  | 1, _ => simp only [List.getElem_cons_succ, List.getElem_cons_zero, Addr.add]; rw [u8_size hn]; go_simp

set_option maxHeartbeats 400000 in
theorem pack_any (k : UInt8) (s : ByteArray) (w : World) (hs : s.size ≤ 120) :
    Calls Try.prog 9 #[.int .u8 k.toNat, .string s] w fun e w' => e = .returned (.tuple #[.string (msg k s), .int .i64 0]) ∧ Below w.heap.size w w' := by
  have hcv := run_two k s.size (by omega) w
  have hd : decide (120 < (s.size : Int)) = false := decide_eq_false (by omega)
  go_enter Try.func9, Try.ntmps9
  go_wp2
  go_ret2
  exact ⟨rfl, (Below.refl _ _).alloc (Nat.le_refl _) _⟩

set_option maxHeartbeats 400000 in
theorem pack_long (k : UInt8) (s : ByteArray) (w : World) (hs : 120 < s.size) :
    Calls Try.prog 9 #[.int .u8 k.toNat, .string s] w fun e w' => e = .returned (.tuple #[.string ⟨#[]⟩, .int .i64 1]) ∧ w = w' := by
  have hd : decide (120 < (s.size : Int)) = true := decide_eq_true (by omega)
  go_enter Try.func9, Try.ntmps9
  go_wp2
  go_ret2
  exact ⟨rfl, rfl⟩

set_option maxHeartbeats 400000 in
theorem unpack_ok (s : ByteArray) (w : World) (hs : s.size ≤ maxLen) (h2 : 2 ≤ s.size) (h : 2 + s[1].toNat ≤ s.size) :
    Calls Try.prog 11 #[.string s] w fun e w' => e = .returned (.tuple #[.int .u8 s[0].toNat, .string (s.extract 2 (2 + s[1].toNat)), .int .i64 ((2 : Int) + (s[1].toNat : Int))]) ∧ Below w.heap.size w w' := by
  unfold maxLen at hs
  have hby : s[1].toNat < 256 := s[1].toNat_lt
  have hd : decide ((s.size : Int) < 2) = false := decide_eq_false (by omega)
  have h0 : 0 < s.size := by omega
  have h0' : (0 : Int) < (s.size : Int) := by omega
  have hsz : (s.extract 2 (2 + s[1].toNat)).size ≤ 281474976710656 := by simp; omega
  have h3 : (0 : Int) ≤ (2 : Int) + (s[1].toNat : Int) := by omega
  have h4 : (2 : Int) ≤ (2 : Int) + (s[1].toNat : Int) := by omega
  have h5 : (2 : Int) + (s[1].toNat : Int) ≤ (s.size : Int) := by omega
  have h7 : ((2 : Int) + (s[1].toNat : Int)).toNat = 2 + s[1].toNat := by omega
  go_enter Try.func11, Try.ntmps11
  go_wp2
  go_region_held3 (fun w' => Below w.heap.size w w') (first | exact Below.refl _ _ | exact (Below.refl _ _).drew | assumption) (first | (go_at_call 16; refine (clone_any _ _ hsz).mono ?_; rintro e w1 ⟨rfl, hb⟩; have hb' : Below w.heap.size w w1 := ⟨hb.os, hb.tape, hb.output, hb.size, hb.block⟩))
  all_goals go_wp2
  all_goals go_ret3
  all_goals exact ⟨rfl, hb'⟩

/-- fewer than two bytes -/
theorem unpack_two (s : ByteArray) (w : World) (h2 : s.size < 2) :
    Calls Try.prog 11 #[.string s] w fun e w' => e = .returned (.tuple #[.int .u8 0, .string ⟨#[]⟩, .int .i64 0]) ∧ w = w' := by
  have hd : decide ((s.size : Int) < 2) = true := decide_eq_true (by omega)
  go_enter Try.func11, Try.ntmps11
  go_wp2
  go_ret3
  exact ⟨rfl, rfl⟩

set_option maxHeartbeats 400000 in
/-- the text is not whole -/
theorem unpack_cut (s : ByteArray) (w : World) (hs : s.size ≤ maxLen) (h2 : 2 ≤ s.size) (h : s.size < 2 + s[1].toNat) :
    Calls Try.prog 11 #[.string s] w fun e w' => e = .returned (.tuple #[.int .u8 0, .string ⟨#[]⟩, .int .i64 0]) ∧ w = w' := by
  unfold maxLen at hs
  have hby : s[1].toNat < 256 := s[1].toNat_lt
  have hd : decide ((s.size : Int) < 2) = false := decide_eq_false (by omega)
  go_enter Try.func11, Try.ntmps11
  go_wp2
  go_ret3
  exact ⟨rfl, rfl⟩

theorem u8_of {a : Int} (h : (Lit.int .u8 a).wf = true) : ∃ k : UInt8, a = k.toNat := by
  have hx : 0 ≤ a ∧ a ≤ 255 := by simpa [Lit.wf, IntKind.min, IntKind.max, IntKind.signed, IntKind.bits] using h
  refine ⟨UInt8.ofNat a.toNat, ?_⟩
  rw [UInt8.toNat_ofNat', Nat.mod_eq_of_lt (by omega)]; omega

end Go.Proofs.Ytpbaobmegomfpaa
