/-
  The walk of the law StmtsBack.
-/
import Derived.Test.YtpbaobmegomfpaaDoorRawS
import Derived.Test.YtpbaobmegomfpaaDoorSay11
import Derived.Test.YtpbaobmegomfpaaDoorSay12
import Derived.Test.YtpbaobmegomfpaaDoorLaidWords
namespace Go.Proofs.YtpbaobmegomfpaaDoor
open Go.RowKit
set_option linter.unusedVariables false
set_option maxRecDepth 100000

theorem stmtsBack.laidFacts {W : World} (h : laidMetH Tryd.prog Rows.stmtsBackRow.laid W) : Words W := words_of h (by simp [Rows.stmtsBackRow, Rows.laid_tillerman_say_words, List.range, List.range.loop, wordL])

theorem pick_lt (n : Int) (m : Nat) (hm : 0 < m) : (pickI n m).toNat < m := by
  have := pickI_bd n (m := (m : Int)) (by omega)
  omega

set_option maxHeartbeats 1000000 in
theorem back_walk (kd a b c : Int) (s : ByteArray) (n : Nat) (key v : ByteArray) (hs : s.size ≤ maxLen) (w : World) (hW : Words w)
    (HS : Hid (∀ W : World, Calls Tryd.prog 19 #[.agg #[.int .i64 kd, .int .i64 a, .int .i64 b, .int .i64 c]] W fun e w' => e = .returned (.agg #[.int .i64 n, .string key, .string v]) ∧ Below W.heap.size W w')) (hc : checkE n key v = 0) :
    Calls Tryd.prog 7 #[.agg #[.int .i64 kd, .int .i64 a, .int .i64 b, .int .i64 c], .string s] w fun e w' => e = .returned (.bool true) ∧ Below w.heap.size w w' := by
  have HC := Lib.hid hc
  have HR := Lib.hid (read_text hc)
  have hg := good_of hc
  have k8 := hg.key8
  have v60 := hg.v60
  have HW := Lib.hid hW
  clear hW hc hg
  go_enter Tryd.func7, Tryd.ntmps7
  go_wp2_with fail
  refine (HS.out _).mono ?_
  rintro e w1 ⟨rfl, hb1⟩
  have b1 : Below w.heap.size w w1 := bel_trans ((Below.refl _ _).alloc (Nat.le_refl _) _) hb1
  go_wp2_with fail
  refine (show_ok n key v _ ((HW.out.below b1).alloc _) HC.out).mono ?_
  rintro e w2 ⟨rfl, hb2⟩
  have X2 := Lib.hid ((Stm.new w1 n key v 23).below hb2)
  have b2 : Below w.heap.size w w2 := bel_trans (b1.alloc b1.size _) hb2
  go_wp2_with fail
  refine (read_ok (textOf n key v) _ (HW.out.below b2) HR.out.2.2.2).mono ?_
  rw [HR.out.1, HR.out.2.1, HR.out.2.2.1]
  rintro e w3 ⟨rfl, hb3⟩
  have X3 := Lib.hid ((X2.out.below hb3).below ((Below.refl _ _).alloc (Nat.le_refl _) (.cells #[.int .i64 n, .string key, .string v] 23)))
  have Y3 := Lib.hid (Stm.new w3 n key v 23)
  have b3 : Below w.heap.size w w3 := bel_trans b2 hb3
  have b3' := Lib.hid (b3.alloc b3.size (.cells #[.int .i64 n, .string key, .string v] 23))
  go_wp2_with fail
  by_cases hr : readE s = 0
  · have HT := Lib.hid (text_read hr)
    refine (read_ok s _ (HW.out.below b3'.out) hr).mono ?_
    rintro e w4 ⟨rfl, hb4⟩
    have X4 := Lib.hid ((X3.out.below hb4).below ((Below.refl _ _).alloc (Nat.le_refl _) (.cells #[.int .i64 (kindN (cutA s)), .string (cutA (cutB s)), .string (cutB (cutB s))] 23)))
    have Y4 := Lib.hid ((Y3.out.below hb4).below ((Below.refl _ _).alloc (Nat.le_refl _) (.cells #[.int .i64 (kindN (cutA s)), .string (cutA (cutB s)), .string (cutB (cutB s))] 23)))
    have b4 : Below w.heap.size w w4 := bel_trans b3'.out hb4
    have b4' := Lib.hid (b4.alloc b4.size (.cells #[.int .i64 (kindN (cutA s)), .string (cutA (cutB s)), .string (cutB (cutB s))] 23))
    clear hb1 hb2 hb3 hb4 b1 b2 b3 hr
    go_wp2_with fail
    refine (show_ok _ _ _ _ (HW.out.below b4'.out) HT.out.1).mono ?_
    rw [HT.out.2]
    rintro e w5 ⟨rfl, hb5⟩
    obtain ⟨_, x0, x1, x2, _⟩ := X4.out.below hb5
    obtain ⟨_, y0, y1, y2, _⟩ := Y4.out.below hb5
    have b5 : Below w.heap.size w w5 := bel_trans b4'.out hb5
    clear hb5 b4
    go_wp2_with fail
    refine (check_any n key v _ (by unfold maxLen; omega) (by unfold maxLen; omega) (HW.out.below b5)).mono ?_
    rw [HC.out]
    rintro e w6 ⟨rfl, hb6⟩
    go_wp2
    go_ret
    exact ⟨rfl, bel_trans b5 hb6⟩
  · refine (read_no s _ (HW.out.below b3'.out) hr).mono ?_
    rintro e w4 ⟨rfl, hb4⟩
    have hne : (readE s == 0) = false := beq_eq_false_iff_ne.2 hr
    obtain ⟨_, x0, x1, x2, _⟩ := (X3.out.below hb4).below ((Below.refl _ _).alloc (Nat.le_refl _) (.cells #[.int .i64 0, .string ⟨#[]⟩, .string ⟨#[]⟩] 23))
    obtain ⟨_, y0, y1, y2, _⟩ := (Y3.out.below hb4).below ((Below.refl _ _).alloc (Nat.le_refl _) (.cells #[.int .i64 0, .string ⟨#[]⟩, .string ⟨#[]⟩] 23))
    have b4 : Below w.heap.size w w4 := bel_trans b3'.out hb4
    have b4' := Lib.hid (b4.alloc b4.size (.cells #[.int .i64 0, .string ⟨#[]⟩, .string ⟨#[]⟩] 23))
    clear hb1 hb2 hb3 hb4 b1 b2 b3 hr
    go_wp2_with fail
    refine (check_any n key v _ (by unfold maxLen; omega) (by unfold maxLen; omega) (HW.out.below b4'.out)).mono ?_
    rw [HC.out]
    rintro e w6 ⟨rfl, hb6⟩
    go_wp2
    go_ret
    exact ⟨rfl, bel_trans b4'.out hb6⟩

theorem walk_StmtsBack (kd a b c : Int) (s : ByteArray) (hk : (Lit.int .i64 kd).wf = true) (ha : (Lit.int .i64 a).wf = true) (hb : (Lit.int .i64 b).wf = true) (hc : (Lit.int .i64 c).wf = true) (hs : s.size ≤ maxLen) (w : World) (hW : Words w) :
    Calls Tryd.prog 7 #[.agg #[.int .i64 kd, .int .i64 a, .int .i64 b, .int .i64 c], .string s] w fun e w' => e = .returned (.bool true) ∧ Below w.heap.size w w' :=
  back_walk kd a b c s _ _ _ hs w hW (fun W => stmt_any kd a b c W hk ha hb hc) (raw_check (pick_lt kd 24 (by omega)) (pick_lt a 4 (by omega)) (pick_lt b 12 (by omega)) (pick_lt c 3 (by omega)) (pick_lt c 4 (by omega)))

end Go.Proofs.YtpbaobmegomfpaaDoor
