/-
  Walks of names: say.bounded, its closure, say.Name; the reference's In and NameMay.
-/
import Derived.Test.YtpbaobmegomfpaaDoorRows
import Derived.Test.YtpbaobmegomfpaaDoorMath
import Derived.WalkKit
import Derived.WalkSpells
import Derived.WalkLawsBesides
import Derived.Deep.QuietTactic
import Derived.BigQuiet
import Derived.Lib.Hide
namespace Go.Proofs.YtpbaobmegomfpaaDoor
open Go.RowKit
set_option linter.unusedVariables false
set_option maxRecDepth 100000

set_option maxHeartbeats 400000 in
theorem in_any (n a b : Int) (w : World) :
    Calls Tryd.prog 26 #[.int .i64 n, .int .i64 a, .int .i64 b] w fun e w' => e = .returned (.bool (inB a n b)) ∧ w = w' := by
  by_cases h1 : a ≤ n
  · go_enter Tryd.func26, Tryd.ntmps26
    go_wp2
    go_ret
    exact ⟨by simp [inB, h1], rfl⟩
  · go_enter Tryd.func26, Tryd.ntmps26
    go_wp2
    go_ret
    exact ⟨by simp [inB]; omega, rfl⟩

theorem in_yes (n a b : Int) (w : World) (h : a ≤ n ∧ n ≤ b) :
    Calls Tryd.prog 26 #[.int .i64 n, .int .i64 a, .int .i64 b] w fun e w' => e = .returned (.bool true) ∧ w = w' :=
  (in_any n a b w).mono fun _ _ ⟨he, hw⟩ => ⟨by rw [he, inB_yes h], hw⟩
theorem in_no (n a b : Int) (w : World) (h : ¬ (a ≤ n ∧ n ≤ b)) :
    Calls Tryd.prog 26 #[.int .i64 n, .int .i64 a, .int .i64 b] w fun e w' => e = .returned (.bool false) ∧ w = w' :=
  (in_any n a b w).mono fun _ _ ⟨he, hw⟩ => ⟨by rw [he, inB_no h], hw⟩

set_option maxHeartbeats 400000 in
theorem bounded_any (lo hi lim : Int) (w : World) :
    Calls Tryd.prog 62 #[.int .u8 lo, .int .u8 hi, .int .i64 lim] w fun e w' => e = .returned (.func (.func 68) #[] #[.pointer (some ⟨w.heap.size + 1 + 1, 0, none⟩), .pointer (some ⟨w.heap.size, 0, none⟩), .pointer (some ⟨w.heap.size + 1, 0, none⟩)]) ∧
      ((w.alloc (.cells #[.int .u8 lo] 5)).alloc (.cells #[.int .u8 hi] 5)).alloc (.cells #[.int .i64 lim] 3) = w' := by
  go_enter Tryd.func62, Tryd.ntmps62
  go_wp2
  go_ret
  exact ⟨rfl, rfl⟩

set_option maxHeartbeats 400000 in
theorem bounded1_any (s : ByteArray) (lo hi lim : Nat) (p1 p2 p3 : Addr) (w : World) (hs : s.size ≤ maxLen) (h1 : w.cell? p1 = some (.int .i64 lim)) (h2 : w.cell? p2 = some (.int .u8 lo)) (h3 : w.cell? p3 = some (.int .u8 hi)) :
    Calls Tryd.prog 68 #[.string s, .pointer (some p1), .pointer (some p2), .pointer (some p3)] w fun e w' => e = .returned (.bool (bndB lo hi lim s)) ∧ ∃ n, w' = w.drewN n := by
  unfold maxLen at hs
  by_cases h0 : s.size = 0
  · have hb := Lib.hid (bndB_short (lo := lo) (hi := hi) (lim := lim) (.inl h0))
    go_enter Tryd.func68, Tryd.ntmps68
    go_wp2
    go_ret
    exact ⟨by rw [hb.out]; rfl, 0, rfl⟩
  have hz : ((s.size : Int) == 0) = false := beq_eq_false_iff_ne.2 (by omega)
  by_cases hl : lim < s.size
  · have hb := Lib.hid (bndB_short (lo := lo) (hi := hi) (lim := lim) (.inr hl))
    go_enter Tryd.func68, Tryd.ntmps68
    go_wp2
    go_ret
    exact ⟨by rw [hb.out]; rfl, 0, rfl⟩
  have hl' : decide (lim < s.size) = false := decide_eq_false hl
  go_enter Tryd.func68, Tryd.ntmps68
  go_wp2
  go_loopw [18] (fun c w' => ∃ k : Nat, k ≤ s.size ∧ c = .int .i64 k ∧ Hid (∀ j (hj : j < s.size), j < k → lo ≤ s[j].toNat ∧ s[j].toNat ≤ hi) ∧ ∃ n, w' = w.drewN n) (fun c _ => s.size - (intOf c).toNat)
  case atStart => exact ⟨0, Nat.zero_le _, rfl, fun _ _ h => absurd h (Nat.not_lt_zero _), 0, rfl⟩
  case round =>
    obtain ⟨k, hk, rfl, hall, n, rfl⟩ := hrel
    by_cases hlt : k < s.size
    · by_cases g1 : s[k].toNat < lo
      · have hb := Lib.hid (bndB_bad (lo := lo) (hi := hi) (lim := lim) hlt (.inl g1))
        go_wp2
        go_quiet (fail)
        go_wp2
        go_ret
        exact ⟨by rw [hb.out]; rfl, n + nq, by rw [World.drewN_drewN]⟩
      · by_cases g2 : hi < s[k].toNat
        · have hb := Lib.hid (bndB_bad (lo := lo) (hi := hi) (lim := lim) hlt (.inr g2))
          have g1' : decide (s[k].toNat < lo) = false := decide_eq_false g1
          go_wp2
          go_quiet (fail)
          go_wp2
          go_ret
          exact ⟨by rw [hb.out]; rfl, n + nq, by rw [World.drewN_drewN]⟩
        · have g1' : decide (s[k].toNat < lo) = false := decide_eq_false g1
          have g2' : decide (hi < s[k].toNat) = false := decide_eq_false g2
          go_wp2
          go_quiet (fail)
          go_wp2
          go_roundw
          case rel =>
            refine ⟨k + 1, by omega, by go_num, fun j hj hjk => ?_, n + nq, rfl⟩
            by_cases e : j = k
            · subst e; omega
            · exact hall.out j hj (by omega)
          case measure => simp [intOf]; omega
    · have hb := Lib.hid (bndB_good (lo := lo) (hi := hi) (lim := lim) (s := s) (by omega) (by omega) (fun j hj => hall.out j hj (by omega)))
      go_wp2
      go_ret
      exact ⟨by rw [hb.out]; rfl, n, rfl⟩

set_option maxHeartbeats 400000 in
theorem name_any (s : ByteArray) (w : World) (hs : s.size ≤ maxLen) :
    Calls Tryd.prog 46 #[.string s] w fun e w' => e = .returned (.bool (bndB 97 122 8 s)) ∧ Below w.heap.size w w' := by
  go_enter Tryd.func46, Tryd.ntmps46
  go_wp2_with fail
  refine (bounded_any 97 122 8 _).mono ?_
  rintro e w' ⟨rfl, rfl⟩
  go_wp2_with fail
  refine (bounded1_any s 97 122 8 _ _ _ _ hs (by go_simp) (by go_simp) (by go_simp)).mono ?_
  rintro e w' ⟨rfl, n, rfl⟩
  go_wp2
  go_ret
  exact ⟨rfl, below_drewN ((((Below.refl _ _).alloc (Nat.le_refl _) _).alloc (by simp) _).alloc (by simp; omega) _) n⟩

set_option maxHeartbeats 400000 in
theorem nameMay_any (s : ByteArray) (w : World) (hs : s.size ≤ maxLen) :
    Calls Tryd.prog 27 #[.string s] w fun e w' => e = .returned (.bool (bndB 97 122 8 s)) ∧ w = w' := by
  unfold maxLen at hs
  go_enter Tryd.func27, Tryd.ntmps27
  go_wp2
  go_loop [3] (fun c => ∃ k : Nat, k ≤ s.size ∧ c = .int .i64 k ∧ Hid (∀ j (hj : j < s.size), j < k → 97 ≤ s[j].toNat ∧ s[j].toNat ≤ 122)) (fun c => s.size - (intOf c).toNat)
  case atStart => exact ⟨0, Nat.zero_le _, rfl, fun _ _ h => absurd h (Nat.not_lt_zero _)⟩
  case round =>
    obtain ⟨k, hk, rfl, hall⟩ := hrel
    by_cases hlt : k < s.size
    · have hby : s[k].toNat < 256 := s[k].toNat_lt
      by_cases g : 97 ≤ s[k].toNat ∧ s[k].toNat ≤ 122
      · obtain ⟨g1, g2⟩ := g
        go_wp2_with (go_at_call 26; refine (in_yes _ _ _ _ (by omega)).mono ?_; rintro e w' ⟨rfl, rfl⟩)
        go_round
        case rel =>
          refine ⟨k + 1, by omega, by go_num, fun j hj hjk => ?_⟩
          by_cases e : j = k
          · subst e; omega
          · exact hall.out j hj (by omega)
        case measure => simp [intOf]; omega
      · have hb := Lib.hid (bndB_bad (lo := 97) (hi := 122) (lim := 8) hlt (by omega))
        have hg := Lib.hid g
        clear g
        go_wp2_with (go_at_call 26; refine (in_no _ _ _ _ (by have := hg.out; omega)).mono ?_; rintro e w' ⟨rfl, rfl⟩)
        go_ret
        exact ⟨by rw [hb.out]; rfl, rfl⟩
    · have hb : Hid (bndB 97 122 8 s = inB 1 s.size 8) := bndB_len hall.out (by omega)
      go_wp2_with (go_at_call 26; refine (in_any _ _ _ _).mono ?_; rintro e w' ⟨rfl, rfl⟩)
      go_ret
      exact ⟨by rw [hb.out]; rfl, rfl⟩

end Go.Proofs.YtpbaobmegomfpaaDoor
