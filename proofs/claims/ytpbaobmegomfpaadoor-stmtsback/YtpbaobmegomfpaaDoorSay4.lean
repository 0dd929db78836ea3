/-
  Walks of the texts of statements: strings.Cut at a blank, say.kindOf; the reference's upTo and wordOf.
-/
import Derived.Test.YtpbaobmegomfpaaDoorRows
import Derived.Test.YtpbaobmegomfpaaDoorMath2
import Derived.WalkKit
import Derived.WalkSpells
import Derived.WalkLawsBesides
import Derived.Deep.QuietTactic
import Derived.BigQuiet
import Derived.Lib.Hide
import Derived.Lib.Bytealg
import Derived.IntWalk
namespace Go.Proofs.YtpbaobmegomfpaaDoor
open Go.RowKit
set_option linter.unusedVariables false
set_option maxRecDepth 100000

/-- the table of the words -/
structure Words (w : World) : Prop where
  room : 0 < w.heap.size
  cell : ∀ k, k ≤ 11 → w.cell? ⟨0, k, none⟩ = some (.string (wordAt k))
theorem Words.below {w w' : World} (h : Words w) (hb : Below w.heap.size w w') : Words w' :=
  ⟨Nat.lt_of_lt_of_le h.room hb.size, fun k hk => (hb.cell (p := ⟨0, k, none⟩) h.room).trans (h.cell k hk)⟩
theorem Words.alloc {w : World} (h : Words w) (o : Obj) : Words (w.alloc o) := h.below ((Below.refl _ _).alloc (Nat.le_refl _) _)
theorem Words.drewN {w : World} (h : Words w) (n : Nat) : Words (w.drewN n) := h.below (below_drewN (Below.refl _ _) n)
theorem bel_trans {a b c : World} (h : Below a.heap.size a b) (k : Below b.heap.size b c) : Below a.heap.size a c := h.trans (k.mono h.size)

set_option maxHeartbeats 400000 in
theorem indexByte_any (s : ByteArray) (w : World) :
    Calls Tryd.prog 74 #[.string s, .int .u8 32] w fun e w' => e = .returned (.int .i64 (Lib.indexByte s.data.toList 32)) ∧ w = w' := by
  go_enter Tryd.func74, Tryd.ntmps74
  go_wp2
  rw [run_callFunc_extern Tryd.func83 (by kernel_rfl) (by kernel_rfl) (by kernel_rfl) (e := Extern.BytealgIndexByte.indexByte) (by kernel_rfl), Lib.run_indexByteString]
  simp only [Result.andThen]
  rw [Oper.upon_value]
  go_wp2
  go_ret
  exact ⟨rfl, rfl⟩

set_option maxHeartbeats 400000 in
theorem index_any (s : ByteArray) (w : World) (hs : s.size ≤ maxLen) :
    Calls Tryd.prog 69 #[.string s, .string ⟨#[32]⟩] w fun e w' => e = .returned (.int .i64 (Lib.indexByte s.data.toList 32)) ∧ w = w' := by
  unfold maxLen at hs
  go_enter Tryd.func69, Tryd.ntmps69
  go_wp2_with (go_at_call 74; refine (indexByte_any s _).mono ?_; rintro e w' ⟨rfl, rfl⟩)
  · have h : ([32] == s.toList) = true := by assumption
    have e : s.data.toList = [32] := by rw [← Lib.toList_data]; exact (beq_iff_eq.1 h).symm
    go_ret
    exact ⟨by rw [e]; rfl, rfl⟩
  · go_ret
    exact ⟨rfl, rfl⟩

set_option maxHeartbeats 400000 in
theorem sliteCut_any (s : ByteArray) (w : World) (hs : s.size ≤ maxLen) :
    Calls Tryd.prog 64 #[.string s, .string ⟨#[32]⟩] w fun e w' => e = .returned (.tuple #[.string (cutA s), .string (cutB s), .bool (cutF s)]) ∧ ∃ n, w' = w.drewN n := by
  have hix := cutI_index s
  have hle := cutI_le s
  by_cases hf : cutI s < s.size
  · have hF : cutF s = true := decide_eq_true hf
    rw [hF, if_pos rfl] at hix
    rw [hF]
    have hI := Lib.hid hix
    clear hix hF
    have hA := Lib.hid (show cutA s = s.extract 0 (cutI s) from rfl)
    have hB := Lib.hid (show cutB s = s.extract (cutI s + 1) s.size from rfl)
    generalize cutA s = A at hA ⊢
    generalize cutB s = B at hB ⊢
    generalize cutI s = i at *
    unfold maxLen at hs
    have c1 : (0 : Int) ≤ (i : Int) := by omega
    have c2 : (i : Int) ≤ (s.size : Int) := by omega
    have c3 : (0 : Int) ≤ (i : Int) + 1 := by omega
    have c4 : (i : Int) + 1 ≤ (s.size : Int) := by omega
    have c5 : IntKind.i64.wrap ((i : Int) + 1) = (i : Int) + 1 := IntWalk.i64_in _ (by omega)
    have c6 : ((i : Int) + 1).toNat = i + 1 := by omega
    go_enter Tryd.func64, Tryd.ntmps64
    go_wp2_with (go_at_call 69; refine (index_any s _ (by unfold maxLen; omega)).mono ?_; rw [hI.out]; rintro e w' ⟨rfl, rfl⟩)
    go_quiet (fail)
    go_wp2
    go_ret3
    exact ⟨by rw [hA.out, hB.out]; rfl, nq, rfl⟩
  · have hF : cutF s = false := decide_eq_false hf
    have he : cutI s = s.size := by omega
    rw [hF, if_neg (by decide)] at hix
    rw [hF, cutA_all he, cutB_none he]
    have hI := Lib.hid hix
    clear hix hF he hf
    go_enter Tryd.func64, Tryd.ntmps64
    go_wp2_with (go_at_call 69; refine (index_any s _ hs).mono ?_; rw [hI.out]; rintro e w' ⟨rfl, rfl⟩)
    go_ret3
    exact ⟨rfl, 0, rfl⟩

theorem cut_any (s : ByteArray) (w : World) (hs : s.size ≤ maxLen) :
    Calls Tryd.prog 49 #[.string s, .string ⟨#[32]⟩] w fun e w' => e = .returned (.tuple #[.string (cutA s), .string (cutB s), .bool (cutF s)]) ∧ ∃ n, w' = w.drewN n := by
  go_enter Tryd.func49, Tryd.ntmps49
  go_wp2_with fail
  refine (sliteCut_any s _ hs).mono ?_
  rintro e w' ⟨rfl, n, rfl⟩
  go_wp2
  go_ret3
  exact ⟨rfl, n, rfl⟩

set_option maxHeartbeats 400000 in
theorem upTo_any (s : ByteArray) (w : World) (hs : s.size ≤ maxLen) :
    Calls Tryd.prog 32 #[.string s] w fun e w' => e = .returned (.tuple #[.string (cutA s), .string (cutB s), .bool (cutF s)]) ∧ ∃ n, w' = w.drewN n := by
  unfold maxLen at hs
  go_enter Tryd.func32, Tryd.ntmps32
  go_wp2
  go_loop [5] (fun c => ∃ k : Nat, k ≤ s.size ∧ c = .int .i64 k ∧ Hid (∀ j (hj : j < s.size), j < k → s[j] ≠ 32)) (fun c => s.size - (intOf c).toNat)
  case atStart => exact ⟨0, Nat.zero_le _, rfl, fun _ _ h => absurd h (Nat.not_lt_zero _)⟩
  case round =>
    obtain ⟨k, hk, rfl, hall⟩ := hrel
    by_cases hlt : k < s.size
    · have hby : s[k].toNat < 256 := s[k].toNat_lt
      by_cases g : s[k] = 32
      · have hI := cutI_hit hlt g hall.out
        have hA := Lib.hid (show cutA s = s.extract 0 k by unfold cutA; rw [hI])
        have hB := Lib.hid (show cutB s = s.extract (k + 1) s.size by unfold cutB; rw [hI])
        have hF := Lib.hid (show cutF s = true by unfold cutF; rw [hI]; exact decide_eq_true hlt)
        have hg : ((s[k].toNat : Int) == 32) = true := by rw [g]; rfl
        clear hI g
        have c1 : (0 : Int) ≤ (k : Int) := by omega
        have c2 : (k : Int) ≤ (s.size : Int) := by omega
        have c3 : (0 : Int) ≤ (k : Int) + 1 := by omega
        have c4 : (k : Int) + 1 ≤ (s.size : Int) := by omega
        have c5 : IntKind.i64.wrap ((k : Int) + 1) = (k : Int) + 1 := IntWalk.i64_in _ (by omega)
        have c6 : ((k : Int) + 1).toNat = k + 1 := by omega
        go_wp2
        go_quiet (fail)
        go_wp2
        go_ret3
        exact ⟨by rw [hA.out, hB.out, hF.out]; rfl, nq, rfl⟩
      · have hg : ((s[k].toNat : Int) == 32) = false := by
          rw [beq_eq_false_iff_ne]; intro e; apply g; apply UInt8.toNat_inj.1; show s[k].toNat = 32; omega
        have hG := Lib.hid g
        clear g
        go_wp2
        go_round
        case rel =>
          refine ⟨k + 1, by omega, by go_num, fun j hj hjk => ?_⟩
          by_cases e : j = k
          · subst e; exact hG.out
          · exact hall.out j hj (by omega)
        case measure => simp [intOf]; omega
    · have he : cutI s = s.size := cutI_miss (fun j hj => hall.out j hj (by omega))
      have hA := Lib.hid (cutA_all he)
      have hB := Lib.hid (cutB_none he)
      have hF := Lib.hid (show cutF s = false by unfold cutF; rw [he]; simp)
      clear he
      go_wp2
      go_ret3
      exact ⟨by rw [hA.out, hB.out, hF.out]; rfl, 0, rfl⟩
end Go.Proofs.YtpbaobmegomfpaaDoor
