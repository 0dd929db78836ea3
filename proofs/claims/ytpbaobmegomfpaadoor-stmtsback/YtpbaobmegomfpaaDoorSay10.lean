/-
  StmtOf and StmtFault of the reference, for all arguments.
-/
import Derived.Test.YtpbaobmegomfpaaDoorSay9
namespace Go.Proofs.YtpbaobmegomfpaaDoor
open Go.RowKit
set_option linter.unusedVariables false

theorem wordL_one : ∀ k, k ≤ 11 → 1 ≤ k → 1 ≤ (wordL k).length := by decide
theorem kind_one {t : ByteArray} (h : kindN (cutA t) ≠ 0) : 1 ≤ t.size := by
  have h1 := kindN_word (s := cutA t) (by omega)
  have h2 := wordL_one (kindN (cutA t)) (kindN_le _) (by omega)
  rw [h1] at h2
  have h3 : (cutA t).data.toList.length = (cutA t).size := by simp
  have := cutA_size t
  have := cutI_le t
  omega

theorem of_all (n : Nat) : ∀ t : ByteArray, t.size ≤ n → OfSaid t := by
  induction n with
  | zero =>
    intro t ht
    have h := of_main t (by omega) (fun hE => absurd (kind_one (splitE_ok hE).1) (by omega))
    exact ⟨fun hr w => (h w).mono fun _ _ ⟨he, hb⟩ => ⟨by rw [he, ofV_ok hr], hb⟩, fun hr w => (h w).mono fun _ _ ⟨he, hb⟩ => ⟨by rw [he, ofV_no hr], hb⟩⟩
  | succ n ih =>
    intro t ht
    by_cases hl : 60 < t.size
    · refine ⟨fun hr => ?_, fun hr w => ?_⟩
      · rw [readE_long hl] at hr; cases hr
      · rw [readE_long hl]; exact of_long t hl w
    · have h := of_main t (by omega) (fun hE => by
        have h1 := kind_one (splitE_ok hE).1
        have h2 := cutB_size t
        have h3 := cutB_size (cutB t)
        have h4 := cutA_size (cutB t)
        have h5 := cutI_le (cutB t)
        exact fault_of _ _ _ (by unfold maxLen; omega) (by unfold maxLen; omega) (ih _ (by omega)))
      exact ⟨fun hr w => (h w).mono fun _ _ ⟨he, hb⟩ => ⟨by rw [he, ofV_ok hr], hb⟩, fun hr w => (h w).mono fun _ _ ⟨he, hb⟩ => ⟨by rw [he, ofV_no hr], hb⟩⟩

theorem stmtFault_any (k : Int) (key v : ByteArray) (hs : key.size ≤ maxLen) (hv : v.size ≤ maxLen) (w : World) :
    Calls Tryd.prog 12 #[.agg #[.int .i64 k, .string key, .string v]] w fun e w' => e = .returned (.int .i64 (checkE k key v)) ∧ Below w.heap.size w w' :=
  fault_of k key v hs hv (of_all v.size v (Nat.le_refl _)) w

end Go.Proofs.YtpbaobmegomfpaaDoor
