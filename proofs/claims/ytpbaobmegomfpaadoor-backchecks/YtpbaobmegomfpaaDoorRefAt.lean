/-
  Walks of the reference's lists: at.
-/
import Derived.Test.YtpbaobmegomfpaaDoorLst
import Derived.Test.YtpbaobmegomfpaaDoorRows
import Derived.Deep.QuietTactic
import Derived.BigQuiet
namespace Go.Proofs.YtpbaobmegomfpaaDoor
open Go.RowKit
set_option linter.unusedVariables false
set_option maxRecDepth 100000

/-- what 'at' answers -/
def atV (o : Option ByteArray) : Value := match o with | some v => .tuple #[.string v, .bool true] | none => .tuple #[.string ⟨#[]⟩, .bool false]
theorem atL_hit {l : PL} {k : ByteArray} {i : Nat} (hi : i < l.length) (h : eqB l[i].1 k = true) (hn : ∀ j (hj : j < l.length), j < i → eqB l[j].1 k = false) : atL l k = some l[i].2 := by
  induction l generalizing i with
  | nil => simp at hi
  | cons p l ih =>
    cases i with
    | zero => simp only [List.getElem_cons_zero] at h ⊢; unfold atL; rw [if_pos h]
    | succ i =>
      have h0 := hn 0 (by simp) (by omega)
      simp only [List.getElem_cons_zero] at h0
      unfold atL; rw [h0, if_neg (by simp)]
      exact ih (by simpa using hi) (by simpa using h) (fun j hj hji => hn (j + 1) (by simpa using hj) (by omega))
theorem atL_miss {l : PL} {k : ByteArray} (hn : ∀ j (hj : j < l.length), eqB l[j].1 k = false) : atL l k = none := by
  induction l with
  | nil => rfl
  | cons p l ih =>
    have h0 := hn 0 (by simp)
    simp only [List.getElem_cons_zero] at h0
    unfold atL; rw [h0, if_neg (by simp)]
    exact ih (fun j hj => hn (j + 1) (by simpa using hj))

set_option maxHeartbeats 400000 in
theorem at_any (v : Value) (l : PL) (key : ByteArray) (w : World) (B : Nat) (hl : Lst w B v l) :
    Calls Tryd.prog 59 #[v, .string key] w fun e w' => e = .returned (atV (atL l key)) ∧ w = w' := by
  obtain ⟨A, c, rfl, hc⟩ := hl.form
  have hby := hl.bytes
  have HL := Lib.hid hl
  clear hl
  go_enter Tryd.func59, Tryd.ntmps59
  go_wp2
  go_loop [6] (fun i => ∃ k : Nat, k ≤ l.length ∧ i = .int .i64 k ∧ Hid (∀ j (hj : j < l.length), j < k → eqB l[j].1 key = false)) (fun i => l.length - (intOf i).toNat)
  case atStart => exact ⟨0, by omega, rfl, fun j hj h => by omega⟩
  case round =>
    obtain ⟨k, hk, rfl, hall⟩ := hrel
    by_cases hlt : k < l.length
    · obtain ⟨b, off, rfl, hb, c0, c1⟩ := HL.out.pt hlt
      go_wp2
      · have h : (l[k].1.toList == key.toList) = true := by assumption
        have hf := atL_hit hlt h (fun j hj hjk => hall.out j hj hjk)
        go_ret2
        exact ⟨by rw [hf]; rfl, rfl⟩
      · have h : (l[k].1.toList == key.toList) = false := by assumption
        go_round
        case rel =>
          refine ⟨k + 1, by omega, by go_num, fun j hj hjk => ?_⟩
          by_cases e : j = k
          · subst e; exact h
          · exact hall.out j hj (by omega)
        case measure => simp [intOf]; omega
    · have hk := Lib.hid (atL_miss (fun j hj => hall.out j hj (by omega)))
      go_wp2
      go_ret2
      exact ⟨by rw [hk.out]; rfl, rfl⟩
end Go.Proofs.YtpbaobmegomfpaaDoor
