/-
  Texts of the proof, one behind the other: SaidOne, CommitM, ItoaS, Itoa2, WCommitsShow.
-/
import Derived.Test.YtpbaobmegomfpabDoorM6
import Derived.Test.YtpbaobmegomfpabDoorM5
import Derived.Shelf.Strconv.Itoa3
import Derived.Test.YtpbaobmegomfpabDoorProg
import Derived.Below
/-
  tillermankeep.said with one statement; three statements in memory; a world's variable and an answer are written to.
-/
namespace Go.Proofs.YtpbaobmegomfpabDoor
open Go.RowKit
set_option linter.unusedVariables false

theorem sl_one {w : World} {g t : Nat} {k : Int} {key val : ByteArray} (h : RowTo w g t 3 [.int .i64 k, .string key, .string val]) : SLst w w.heap.size (.slice (some ⟨g, 0, none⟩) 1 1) [(k, key, val)] := by
  obtain ⟨c0, c1, c2⟩ := cells3 h
  refine ⟨⟨_, 1, rfl, by simp⟩, by simp, fun _ => ⟨g, 0, 1, rfl, h.lt, fun i hi => ?_⟩⟩
  obtain rfl : i = 0 := by simp at hi; exact hi
  exact ⟨c0, c1, c2⟩
/-- one statement said -/
theorem said_one {W : Wd} {i : Nat} {k : Int} {key val : ByteArray} {R : Wd × Ans} {st : Int} (hR : doR W i ⟨k, key, val⟩ = R) (hst : (R.1.at i).st = st) (hok : WorldOk W) (hi : i < W.ss.length) (hr : Req.ok ⟨k, key, val⟩) (r s : Value) (g t : Nat) (wc : World) (hW : Wld wc wc.heap.size r s W) (hg : RowTo wc g t 3 [.int .i64 k, .string key, .string val]) (hWo : Words wc) :
    Calls Tryd.prog 18 #[.agg #[r, s], .int .i64 i, .slice (some ⟨g, 0, none⟩) 1 1] wc fun e w' => ∃ D d A c, e = .returned (.tuple #[.agg #[.slice D R.1.rows.length d, .slice A R.1.ss.length c], .agg #[.int .i64 R.2.kind, .string R.2.text, .int .i64 st], .bool true]) ∧
      Wld w' w'.heap.size (.slice D R.1.rows.length d) (.slice A R.1.ss.length c) R.1 ∧ Below wc.heap.size wc w' := by
  subst hR hst
  refine (said_any r s W i _ [(k, key, val)] wc hW (sl_one hg) hWo hok hi (fun t ht => by simp at ht; subst ht; exact hr)).mono ?_
  rintro e w' ⟨r', s', rfl, hw, hb⟩
  obtain ⟨A, c, rfl, _⟩ := hw.sess.form
  obtain ⟨D, d, rfl, _⟩ := hw.rows.form
  exact ⟨D, d, A, c, rfl, hw, hb⟩

/-- a world's variable and a new answer are written to -/
theorem stored3 {w0 w : World} {B R S t : Nat} {a b : Option Addr} {n m c d : Nat} {x y : Value} {p q : Int} {z : ByteArray} {W : Wd} (hX : RowTo w R t 2 [.slice a n c, .slice b m d]) (hS : RowTo w S 30 3 [.int .i64 p, .string z, .int .i64 q]) (hne : R ≠ S) (hW : Wld w w.heap.size x y W) (hB : Below B w0 w) (hR : B ≤ R) (hS' : B ≤ S) (u1 u2 u3 : Value) :
    RowTo (((((w.setCell ⟨R, 0, none⟩ x).setCell ⟨R, 1, none⟩ y).setCell ⟨S, 0, none⟩ u1).setCell ⟨S, 1, none⟩ u2).setCell ⟨S, 2, none⟩ u3) R t 2 [x, y] ∧
    Wld (((((w.setCell ⟨R, 0, none⟩ x).setCell ⟨R, 1, none⟩ y).setCell ⟨S, 0, none⟩ u1).setCell ⟨S, 1, none⟩ u2).setCell ⟨S, 2, none⟩ u3) (((((w.setCell ⟨R, 0, none⟩ x).setCell ⟨R, 1, none⟩ y).setCell ⟨S, 0, none⟩ u1).setCell ⟨S, 1, none⟩ u2).setCell ⟨S, 2, none⟩ u3).heap.size x y W ∧
    Below B w0 (((((w.setCell ⟨R, 0, none⟩ x).setCell ⟨R, 1, none⟩ y).setCell ⟨S, 0, none⟩ u1).setCell ⟨S, 1, none⟩ u2).setCell ⟨S, 2, none⟩ u3) :=
  ⟨(hX.set2 _ _).oth3 (Ne.symm hne) _ _ _, (hW.set2 hX _ _).set3 (hS.oth2 hne _ _) _ _ _, bel_set3 (bel_set2 hB hR _ _) hS' _ _ _⟩
theorem sl_three {w : World} {g t : Nat} {k1 k2 k3 : Int} {a1 b1 a2 b2 a3 b3 : ByteArray} (h : RowTo w g t 9 [.int .i64 k1, .string a1, .string b1, .int .i64 k2, .string a2, .string b2, .int .i64 k3, .string a3, .string b3]) : SLst w w.heap.size (.slice (some ⟨g, 0, none⟩) 3 3) [(k1, a1, b1), (k2, a2, b2), (k3, a3, b3)] := by
  refine ⟨⟨_, 3, rfl, by simp⟩, by simp, fun _ => ⟨g, 0, 3, rfl, h.lt, fun i hi => ?_⟩⟩
  have hi3 : i < 3 := by simpa using hi
  obtain rfl | rfl | rfl : i = 0 ∨ i = 1 ∨ i = 2 := by omega
  · exact ⟨h.cell (j := 0) (by simp), h.cell (j := 1) (by simp), h.cell (j := 2) (by simp)⟩
  · exact ⟨h.cell (j := 3) (by simp), h.cell (j := 4) (by simp), h.cell (j := 5) (by simp)⟩
  · exact ⟨h.cell (j := 6) (by simp), h.cell (j := 7) (by simp), h.cell (j := 8) (by simp)⟩
end Go.Proofs.YtpbaobmegomfpabDoor

/-
  Plain mathematics: what CommitsShow plays.
-/
namespace Go.Proofs.YtpbaobmegomfpabDoor
open Go.RowKit
set_option linter.unusedVariables false

def rowK : ByteArray := ⟨#[114, 111, 119]⟩
section
variable (v : ByteArray)
def cs0 : Wd := ⟨[], [Sess.zero, Sess.zero]⟩
def cs1 : Wd := ⟨[], [⟨1, [], [], [], []⟩, Sess.zero]⟩
def cs2 : Wd := ⟨[], [⟨1, [], [], [], [(rowK, v)]⟩, Sess.zero]⟩
def cs3 : Wd := ⟨[(rowK, v)], [Sess.zero, Sess.zero]⟩
theorem com_begin : doR cs0 0 ⟨1, ⟨#[]⟩, ⟨#[]⟩⟩ = (cs1, ok') := by
  simp [doR, doM, didM, did1, Wd.at, Wd.put, cs0, cs1, Sess.zero, ok']
theorem held_none : heldB cs1.ss 0 rowK = false := heldB_no (fun k hk hs => by
  match k, hk with
  | 0, _ => rfl
  | 1, _ => simp [cs1, Sess.zero, atL] at hs)
theorem com_put : doR cs1 0 ⟨10, rowK, v⟩ = (cs2 v, ok') := by
  have h := held_none
  have ha : (allL cs1) = [] := by simp [allL, allF, cs1, Sess.zero]
  have hh : heldB [⟨1, [], [], [], []⟩, Sess.zero] 0 rowK = false := h
  simp [doR, doM, didM, did1, Wd.at, Wd.put, ha, ok', cs2]
  simp [cs1, hh, plusL, plusGo]
theorem com_read : doR (cs2 v) 0 ⟨7, rowK, ⟨#[]⟩⟩ = (cs2 v, ⟨2, v⟩) := by
  simp [doR, doM, didM, did1, Wd.at, cs2, atL, eqB_self, fnd']
theorem com_read1 : doR (cs2 v) 1 ⟨7, rowK, ⟨#[]⟩⟩ = (cs2 v, ⟨3, ⟨#[]⟩⟩) := by
  simp [doR, doM, didM, did1, Wd.at, cs2, Sess.zero, atL, fnd']
theorem com_put1 : doR (cs2 v) 1 ⟨10, rowK, v⟩ = (cs2 v, no' tHeld) := by
  have h : heldB (cs2 v).ss 1 rowK = true := heldB_yes (k := 0) (by simp [cs2]) (by simp [cs2, atL, eqB_self]) (by decide)
  have h' : heldB [⟨1, [], [], [], [(rowK, v)]⟩, Sess.zero] 1 rowK = true := h
  simp [doR, doM, didM, did1, Wd.at, cs2, h', no']
  simp [Sess.zero]
theorem com_commit : doR (cs2 v) 0 ⟨2, ⟨#[]⟩, ⟨#[]⟩⟩ = (cs3 v, ok') := by
  simp [doR, doM, didM, did1, Wd.at, cs2, cs3, plusF, plusL, plusGo, ok', Sess.zero]
theorem com_read2 : doR (cs3 v) 1 ⟨7, rowK, ⟨#[]⟩⟩ = (cs3 v, ⟨2, v⟩) := by
  simp [doR, doM, didM, did1, Wd.at, cs3, Sess.zero, atL, eqB_self, fnd']
theorem com_put2 : ∃ W, doR (cs3 v) 1 ⟨10, rowK, v⟩ = (W, ok') ∧ W.rows.length = 1 ∧ (W.at 1).st = 0 := by
  have h : heldB (cs3 v).ss 1 rowK = false := heldB_no (fun k hk hs => by
    match k, hk with
    | 0, _ => simp [cs3, Sess.zero, atL] at hs
    | 1, _ => rfl)
  have h' : heldB [⟨0, [], [], [], []⟩, ⟨0, [], [], [], []⟩] 1 rowK = false := h
  have ha : (allL (cs3 v)) = [(rowK, v)] := by simp [allL, allF, cs3, Sess.zero]
  refine ⟨⟨plusL [(rowK, v)] rowK v, [Sess.zero, Sess.zero]⟩, ?_, ?_, ?_⟩
  · simp [doR, doM, didM, did1, Wd.at, ha, ok']
    simp [cs3, h', Sess.zero]
  · simp [plusL, plusGo, ltB_irrefl, eqB_self]
  · simp [Wd.at, Sess.zero]
end
end Go.Proofs.YtpbaobmegomfpabDoor

/-
  strconv.Itoa at this program: the library's contract, laid (the tables of numbers by the shelf's tool).
-/
namespace Go.Proofs.YtpbaobmegomfpabDoor
open Go.Shelf Go.Proofs
def Tryd.laysM171_ren : Go.Shelf.Ren := ⟨fun | 171 => 19 | 243 => 34 | 246 => 55 | 283 => 69 | 284 => 70 | 285 => 71 | 286 => 72 | 129 => 81 | 317 => 80 | 318 => 82 | 319 => 83 | 320 => 84 | 337 => 90 | 338 => 91 | n => n, fun | 3 => 3 | 9 => 9 | 2 => 2 | 4 => 4 | 171 => 104 | 0 => 0 | 53 => 105 | 37 => 97 | 5 => 5 | 173 => 108 | 212 => 115 | 51 => 116 | 20 => 20 | 213 => 117 | 46 => 118 | 232 => 125 | 233 => 126 | n => n, fun | 17 => 1 | 18 => 3 | 19 => 4 | n => n⟩
theorem Tryd.laysM171 : Go.Proofs.LaysM.n171 Tryd.prog Tryd.laysM171_ren := {
  mixed := by kernel_rfl
  f129 := Tryd.func81.trans (congrArg some (by kernel_rfl))
  f171 := Tryd.func19.trans (congrArg some (by kernel_rfl))
  f243 := Tryd.func34.trans (congrArg some (by kernel_rfl))
  f246 := Tryd.func55.trans (congrArg some (by kernel_rfl))
  f283 := Tryd.func69.trans (congrArg some (by kernel_rfl))
  f284 := Tryd.func70.trans (congrArg some (by kernel_rfl))
  f285 := Tryd.func71.trans (congrArg some (by kernel_rfl))
  f286 := Tryd.func72.trans (congrArg some (by kernel_rfl))
  f317 := Tryd.func80.trans (congrArg some (by kernel_rfl))
  f318 := Tryd.func82.trans (congrArg some (by kernel_rfl))
  f319 := Tryd.func83.trans (congrArg some (by kernel_rfl))
  f320 := Tryd.func84.trans (congrArg some (by kernel_rfl))
  f337 := Tryd.func90.trans (congrArg some (by kernel_rfl))
  f338 := Tryd.func91.trans (congrArg some (by kernel_rfl))
  t0 := Tryd.underlying0
  a0 := Tryd.isAgg0
  z0 := Tryd.sizeOf0
  v0 := Tryd.zeroValue0
  t2 := Tryd.underlying2
  a2 := Tryd.isAgg2
  z2 := Tryd.sizeOf2
  v2 := Tryd.zeroValue2
  t3 := Tryd.underlying3
  a3 := Tryd.isAgg3
  z3 := Tryd.sizeOf3
  v3 := Tryd.zeroValue3
  t4 := Tryd.underlying4
  a4 := Tryd.isAgg4
  z4 := Tryd.sizeOf4
  v4 := Tryd.zeroValue4
  t5 := Tryd.underlying5
  a5 := Tryd.isAgg5
  z5 := Tryd.sizeOf5
  v5 := Tryd.zeroValue5
  t9 := Tryd.underlying9
  a9 := Tryd.isAgg9
  z9 := Tryd.sizeOf9
  v9 := Tryd.zeroValue9
  t20 := Tryd.underlying20
  a20 := Tryd.isAgg20
  z20 := Tryd.sizeOf20
  v20 := Tryd.zeroValue20
  t37 := Tryd.underlying97
  a37 := Tryd.isAgg97
  z37 := Tryd.sizeOf97
  v37 := Tryd.zeroValue97
  t46 := Tryd.underlying118
  a46 := Tryd.isAgg118
  z46 := Tryd.sizeOf118
  v46 := Tryd.zeroValue118
  t51 := Tryd.underlying116
  a51 := Tryd.isAgg116
  z51 := Tryd.sizeOf116
  v51 := Tryd.zeroValue116
  t53 := Tryd.underlying105
  a53 := Tryd.isAgg105
  z53 := Tryd.sizeOf105
  v53 := Tryd.zeroValue105
  t171 := Tryd.underlying104
  a171 := Tryd.isAgg104
  z171 := Tryd.sizeOf104
  v171 := Tryd.zeroValue104
  t173 := Tryd.underlying108
  a173 := Tryd.isAgg108
  z173 := Tryd.sizeOf108
  v173 := Tryd.zeroValue108
  t212 := Tryd.underlying115
  a212 := Tryd.isAgg115
  z212 := Tryd.sizeOf115
  v212 := Tryd.zeroValue115
  t213 := Tryd.underlying117
  a213 := Tryd.isAgg117
  z213 := Tryd.sizeOf117
  t232 := Tryd.underlying125
  a232 := Tryd.isAgg125
  z232 := Tryd.sizeOf125
  v232 := Tryd.zeroValue125
  t233 := Tryd.underlying126
  a233 := Tryd.isAgg126
  z233 := Tryd.sizeOf126
  v233 := Tryd.zeroValue126
  g17 := by kernel_rfl
  g18 := by kernel_rfl
  g19 := by kernel_rfl
  i0 := by kernel_rfl
  i2 := by kernel_rfl
  i3 := by kernel_rfl
  i4 := by kernel_rfl
  i5 := by kernel_rfl
  i9 := by kernel_rfl
  i20 := by kernel_rfl
  i37 := by kernel_rfl
  i46 := by kernel_rfl
  i51 := by kernel_rfl
  i53 := by kernel_rfl
  i171 := by kernel_rfl
  i173 := by kernel_rfl
  i212 := by kernel_rfl
  i232 := by kernel_rfl
  i233 := by kernel_rfl
  m17 := by kernel_rfl
  m18 := by kernel_rfl
  m19 := by kernel_rfl }
open Go.RowKit Go.Sort Go.Lib in
theorem Tryd.strconv_Itoa (n : Int) (h0 : -9223372036854775808 ≤ n) (h1 : n ≤ 9223372036854775807) (w : World) (htab : Lib.TabIs Tryd.prog w "internal/strconv.uint64pow10" .u64 Lib.pow10Tab) :
    Calls Tryd.prog 19 #[.int .i64 n] w fun e w' => e = .returned (.string ⟨(Lib.itoa n).toArray⟩) ∧ ∃ k os, w' = grow (w.drewN k) os := Any.strconv_Itoa Tryd.laysM171 n h0 h1 w htab
def Tryd.lays171_ren : Go.Shelf.Ren := ⟨fun | 171 => 19 | 243 => 34 | 246 => 55 | 283 => 69 | 284 => 70 | 285 => 71 | 286 => 72 | 129 => 81 | 317 => 80 | 318 => 82 | 319 => 83 | 320 => 84 | 337 => 90 | 338 => 91 | n => n, fun | 3 => 3 | 9 => 9 | 2 => 2 | 4 => 4 | 171 => 104 | 0 => 0 | 53 => 105 | 37 => 97 | 5 => 5 | 173 => 108 | 212 => 115 | 51 => 116 | 20 => 20 | 213 => 117 | 46 => 118 | 232 => 125 | 233 => 126 | n => n, fun | 17 => 1 | 18 => 3 | 19 => 4 | n => n⟩
theorem Tryd.lays171 : Go.Proofs.Lays.n171 Tryd.prog Tryd.lays171_ren := {
  mixed := by kernel_rfl
  f129 := Tryd.func81.trans (congrArg some (by kernel_rfl))
  f171 := Tryd.func19.trans (congrArg some (by kernel_rfl))
  f243 := Tryd.func34.trans (congrArg some (by kernel_rfl))
  f246 := Tryd.func55.trans (congrArg some (by kernel_rfl))
  f283 := Tryd.func69.trans (congrArg some (by kernel_rfl))
  f284 := Tryd.func70.trans (congrArg some (by kernel_rfl))
  f285 := Tryd.func71.trans (congrArg some (by kernel_rfl))
  f286 := Tryd.func72.trans (congrArg some (by kernel_rfl))
  f317 := Tryd.func80.trans (congrArg some (by kernel_rfl))
  f318 := Tryd.func82.trans (congrArg some (by kernel_rfl))
  f319 := Tryd.func83.trans (congrArg some (by kernel_rfl))
  f320 := Tryd.func84.trans (congrArg some (by kernel_rfl))
  f337 := Tryd.func90.trans (congrArg some (by kernel_rfl))
  f338 := Tryd.func91.trans (congrArg some (by kernel_rfl))
  t0 := Tryd.underlying0
  a0 := Tryd.isAgg0
  z0 := Tryd.sizeOf0
  v0 := Tryd.zeroValue0
  t2 := Tryd.underlying2
  a2 := Tryd.isAgg2
  z2 := Tryd.sizeOf2
  v2 := Tryd.zeroValue2
  t3 := Tryd.underlying3
  a3 := Tryd.isAgg3
  z3 := Tryd.sizeOf3
  v3 := Tryd.zeroValue3
  t4 := Tryd.underlying4
  a4 := Tryd.isAgg4
  z4 := Tryd.sizeOf4
  v4 := Tryd.zeroValue4
  t5 := Tryd.underlying5
  a5 := Tryd.isAgg5
  z5 := Tryd.sizeOf5
  v5 := Tryd.zeroValue5
  t9 := Tryd.underlying9
  a9 := Tryd.isAgg9
  z9 := Tryd.sizeOf9
  v9 := Tryd.zeroValue9
  t20 := Tryd.underlying20
  a20 := Tryd.isAgg20
  z20 := Tryd.sizeOf20
  v20 := Tryd.zeroValue20
  t37 := Tryd.underlying97
  a37 := Tryd.isAgg97
  z37 := Tryd.sizeOf97
  v37 := Tryd.zeroValue97
  t46 := Tryd.underlying118
  a46 := Tryd.isAgg118
  z46 := Tryd.sizeOf118
  v46 := Tryd.zeroValue118
  t51 := Tryd.underlying116
  a51 := Tryd.isAgg116
  z51 := Tryd.sizeOf116
  v51 := Tryd.zeroValue116
  t53 := Tryd.underlying105
  a53 := Tryd.isAgg105
  z53 := Tryd.sizeOf105
  v53 := Tryd.zeroValue105
  t171 := Tryd.underlying104
  a171 := Tryd.isAgg104
  z171 := Tryd.sizeOf104
  v171 := Tryd.zeroValue104
  t173 := Tryd.underlying108
  a173 := Tryd.isAgg108
  z173 := Tryd.sizeOf108
  v173 := Tryd.zeroValue108
  t212 := Tryd.underlying115
  a212 := Tryd.isAgg115
  z212 := Tryd.sizeOf115
  v212 := Tryd.zeroValue115
  t213 := Tryd.underlying117
  a213 := Tryd.isAgg117
  z213 := Tryd.sizeOf117
  t232 := Tryd.underlying125
  a232 := Tryd.isAgg125
  z232 := Tryd.sizeOf125
  v232 := Tryd.zeroValue125
  t233 := Tryd.underlying126
  a233 := Tryd.isAgg126
  z233 := Tryd.sizeOf126
  v233 := Tryd.zeroValue126
  g17 := by kernel_rfl
  g18 := by kernel_rfl
  g19 := by kernel_rfl }
open Go.RowKit Go.Sort Go.Lib in
theorem Tryd.strconv_Itoa_small (i : Nat) (hi : i < 100) (w : World) :
    Calls Tryd.prog 19 #[.int .i64 i] w fun e w' => e = .returned (.string ⟨(Lib.decDigits i).toArray⟩) ∧ w' = w := Any.strconv_Itoa_small Tryd.lays171 i hi w
end Go.Proofs.YtpbaobmegomfpabDoor

/-
  strconv.Itoa of a number below 1000: its digits.
-/
namespace Go.Proofs.YtpbaobmegomfpabDoor
open Go.RowKit Go.Sort
set_option linter.unusedVariables false

def dig3 (n : Nat) : List UInt8 := if n < 10 then [UInt8.ofNat (48 + n)] else if n < 100 then [UInt8.ofNat (48 + n / 10), UInt8.ofNat (48 + n % 10)] else [UInt8.ofNat (48 + n / 10 / 10), UInt8.ofNat (48 + n / 10 % 10), UInt8.ofNat (48 + n % 10)]
theorem dig3_eq {n : Nat} (h : n < 1000) : Lib.decDigits n = dig3 n := by
  unfold dig3
  by_cases h1 : n < 10
  · rw [if_pos h1, Lib.decDigits_one h1]
  · rw [if_neg h1]
    by_cases h2 : n < 100
    · rw [if_pos h2, Lib.decDigits_two h1 h2]
    · rw [if_neg h2, Lib.decDigits, dif_neg h1, Lib.decDigits_two (by omega) (by omega)]
      rfl
theorem itoa_nat {n : Nat} (h : n < 1000) : Lib.itoa (n : Int) = dig3 n := by
  unfold Lib.itoa
  rw [if_neg (by omega), show ((n : Int)).toNat = n by omega, dig3_eq h]
/-- a v and the digits -/
def vnum (n : Nat) : ByteArray := ⟨#[118]⟩ ++ ⟨(dig3 n).toArray⟩
theorem vnum_ok : ∀ n, n < 1000 → checkE 10 rowK (vnum n) = 0 := by decide +kernel
theorem grown_bel (w : World) (q : Nat) (os : Array Obj) : Below w.heap.size w (grow (w.drewN q) os) :=
  ⟨rfl, rfl, rfl, by simp [grow, World.drewN], fun k hk => by
    show ((w.drewN q).heap ++ os)[k]? = _
    rw [Array.getElem?_append_left (by simpa [World.drewN] using hk)]
    rfl⟩
theorem pow_of {l : List (String × DataW Unit)} {w : World} (h : laidMet Tryd.prog l w) (hin : ("internal/strconv.uint64pow10", Lib.tabData .u64 Lib.pow10Tab) ∈ l) : Lib.TabIs Tryd.prog w "internal/strconv.uint64pow10" .u64 Lib.pow10Tab := by
  obtain ⟨ps, hl, _⟩ := h
  obtain ⟨g', t', cs, fuel, p, hg', ht', hvar, hd⟩ := laid_mem hl hin
  obtain rfl := Option.some.inj ((show Tryd.prog.globalNamed "internal/strconv.uint64pow10" = some 1 by kernel_rfl).symm.trans hg')
  obtain rfl := Option.some.inj ((show (Tryd.prog.globals[1]?).map (·.type) = some 115 by kernel_rfl).symm.trans ht')
  unfold Lib.TabIs
  rw [hvar, ← Lib.cells_of_tab Tryd.underlying115 Tryd.underlying105 (by kernel_rfl) (by kernel_rfl) hd]
theorem itoa3_any (n : Nat) (h : n < 1000) (w : World) (ht : Lib.TabIs Tryd.prog w "internal/strconv.uint64pow10" .u64 Lib.pow10Tab) :
    Calls Tryd.prog 19 #[.int .i64 n] w fun e w' => e = .returned (.string ⟨(dig3 n).toArray⟩) ∧ Below w.heap.size w w' := by
  refine (Tryd.strconv_Itoa n (by omega) (by omega) w ht).mono ?_
  rintro e w' ⟨rfl, k, os, rfl⟩
  rw [itoa_nat h]
  exact ⟨rfl, grown_bel w k os⟩
end Go.Proofs.YtpbaobmegomfpabDoor

/-
  The walk of the law CommitsShow.
-/
namespace Go.Proofs.YtpbaobmegomfpabDoor
open Go.RowKit
set_option linter.unusedVariables false
set_option linter.unusedSimpArgs false
set_option maxRecDepth 100000

theorem cs_ok0 : WorldOk cs0 := zeros_ok (n := 2) (by omega)
theorem cs_ok1 : WorldOk cs1 := by have := (doR_ok cs_ok0 (i := 0) (by decide) (r := ⟨1, ⟨#[]⟩, ⟨#[]⟩⟩) (small_ok (n := 1) (by decide) (by decide))).1; rw [com_begin] at this; exact this
theorem cs_ok2 {v : ByteArray} (hv : checkE 10 rowK v = 0) : WorldOk (cs2 v) := by have := (doR_ok cs_ok1 (i := 0) (by decide) (r := ⟨10, rowK, v⟩) hv).1; rw [com_put] at this; exact this
theorem cs_ok3 {v : ByteArray} (hv : checkE 10 rowK v = 0) : WorldOk (cs3 v) := by have := (doR_ok (cs_ok2 hv) (i := 0) (by simp [cs2]) (r := ⟨2, ⟨#[]⟩, ⟨#[]⟩⟩) (small_ok (n := 2) (by decide) (by decide))).1; rw [com_commit] at this; exact this
theorem read_row : checkE 7 rowK ⟨#[]⟩ = 0 := by decide +kernel
theorem cs_s1 (v : ByteArray) (a : Ans × Int) : saidM 0 cs0 [⟨1, ⟨#[]⟩, ⟨#[]⟩⟩, ⟨10, rowK, v⟩, ⟨7, rowK, ⟨#[]⟩⟩] = cs2 v ∧ lastM 0 cs0 a [⟨1, ⟨#[]⟩, ⟨#[]⟩⟩, ⟨10, rowK, v⟩, ⟨7, rowK, ⟨#[]⟩⟩] = (⟨2, v⟩, 1) := by
  constructor
  · show (doR (doR (doR cs0 0 ⟨1, ⟨#[]⟩, ⟨#[]⟩⟩).1 0 ⟨10, rowK, v⟩).1 0 ⟨7, rowK, ⟨#[]⟩⟩).1 = _
    rw [com_begin, com_put, com_read]
  · unfold lastM lastM lastM
    simp only [com_begin, com_put, com_read]
    rfl
/-- the law's blocks between two calls: the world, the two statements, the answers so far -/
structure ComAt (w wr : World) (bw : Nat) (v : ByteArray) (L : List (Nat × Int × ByteArray × Int)) (r s : Value) (W : Wd) : Prop where
  x : RowTo wr bw 25 2 [r, s]
  rd : RowTo wr (bw + 1) 27 3 [.int .i64 7, .string ⟨#[114, 111, 119]⟩, .string ⟨#[]⟩]
  pt : RowTo wr (bw + 1 + 1) 27 3 [.int .i64 10, .string ⟨#[114, 111, 119]⟩, .string v]
  an : ∀ p ∈ L, bw + 1 + 1 < p.1 ∧ RowTo wr p.1 30 3 [.int .i64 p.2.1, .string p.2.2.1, .int .i64 p.2.2.2]
  wld : Wld wr wr.heap.size r s W
  bel : Below w.heap.size w wr
  lo : w.heap.size ≤ bw
theorem ComAt.next {w wr w2 : World} {bw : Nat} {v : ByteArray} {L : List (Nat × Int × ByteArray × Int)} {D A : Option Addr} {n d m c : Nat} {r2 s2 : Value} {W V : Wd} (h : ComAt w wr bw v L (.slice D n d) (.slice A m c) W) (o1 : Obj) (hb : Below (wr.alloc o1).heap.size (wr.alloc o1) w2) (hw : Wld w2 w2.heap.size r2 s2 V) (k : Int) (t : ByteArray) (st : Int) :
    ComAt w ((((((w2.alloc (.cells #[.int .i64 0, .string ⟨#[]⟩, .int .i64 0] 30)).setCell ⟨bw, 0, none⟩ r2).setCell ⟨bw, 1, none⟩ s2).setCell ⟨w2.heap.size, 0, none⟩ (.int .i64 k)).setCell ⟨w2.heap.size, 1, none⟩ (.string t)).setCell ⟨w2.heap.size, 2, none⟩ (.int .i64 st)) bw v (L ++ [(w2.heap.size, k, t, st)]) r2 s2 V := by
  have al := (Below.refl wr.heap.size wr).alloc (Nat.le_refl _) o1
  have n2 := (Below.refl w2.heap.size w2).alloc (Nat.le_refl _) (.cells #[.int .i64 0, .string ⟨#[]⟩, .int .i64 0] 30)
  have hb' : Below wr.heap.size wr (w2.alloc (.cells #[.int .i64 0, .string ⟨#[]⟩, .int .i64 0] 30)) := bel_add' (bel_add' al hb al.size) n2 (bel_add' al hb al.size).size
  have hz := (bel_add' al hb al.size).size
  have hpl := h.pt.lt
  have X2 := h.x.below hb' h.x.lt
  have Z2 := RowTo.whole w2 #[.int .i64 0, .string ⟨#[]⟩, .int .i64 0] 30
  have hlo := h.lo
  obtain ⟨q1, q2, q3⟩ := stored3 X2 Z2 (by omega) (hw.step n2) (bel_add' h.bel hb' h.bel.size) hlo (by omega) (.int .i64 k) (.string t) (.int .i64 st)
  refine ⟨q1, ((h.rd.below hb' h.rd.lt).oth2 (by omega) _ _).oth3 (by omega) _ _ _, ((h.pt.below hb' h.pt.lt).oth2 (by omega) _ _).oth3 (by omega) _ _ _, fun p hp => ?_, q2, q3, h.lo⟩
  rcases List.mem_append.1 hp with hp | hp
  · obtain ⟨g1, g2⟩ := h.an p hp
    have := g2.lt
    exact ⟨g1, ((g2.below hb' g2.lt).oth2 (by omega) _ _).oth3 (by omega) _ _ _⟩
  · obtain rfl := List.mem_singleton.1 hp
    exact ⟨by show bw + 1 + 1 < w2.heap.size; omega, (Z2.oth2 (by omega) _ _).set3 _ _ _⟩
theorem commitsShow.laidFacts {W : World} (h : laidMetH Tryd.prog Rows.commitsShowRow.laid W) : Words W ∧ Lib.TabIs Tryd.prog W "internal/strconv.uint64pow10" .u64 Lib.pow10Tab :=
  ⟨words_of h (by simp [Rows.commitsShowRow, Rows.laid_tillerman_say_words, List.range, List.range.loop, wordL]), pow_of h (by simp [Rows.commitsShowRow, Rows.laid_internal_strconv_uint64pow10, Lib.tabData, Lib.pow10Tab, List.range, List.range.loop])⟩
set_option maxHeartbeats 16000000 in
theorem walk_CommitsShow (n : Int) (w : World) (hn : (Lit.int .i64 n).wf = true) (hF : Words w ∧ Lib.TabIs Tryd.prog w "internal/strconv.uint64pow10" .u64 Lib.pow10Tab) :
    Calls Tryd.prog 7 #[.int .i64 n] w fun e w' => e = .returned (.bool true) ∧ Below w.heap.size w w' := by
  have HWo := Lib.hid hF.1
  have hnb := i64_bd hn
  have hpk := pickI_bd n (m := 1000) (by omega)
  obtain ⟨i, hi⟩ : ∃ i : Nat, pickI n 1000 = i := ⟨(pickI n 1000).toNat, by omega⟩
  have hi4 : i < 1000 := by omega
  have HP := Lib.hid (fun wc => picked_any n 1000 wc hnb.1 hnb.2 (by omega) (by omega))
  rw [hi] at HP
  have HIT := Lib.hid (itoa3_any i hi4 w hF.2)
  have hvok := vnum_ok i hi4
  have hsz : (⟨(dig3 i).toArray⟩ : ByteArray).size ≤ 3 := by unfold dig3; (repeat' split) <;> simp [ByteArray.size]
  obtain ⟨dg, HDG⟩ : ∃ d : ByteArray, Hid ((⟨(dig3 i).toArray⟩ : ByteArray) = d) := ⟨_, Lib.hid rfl⟩
  rw [HDG.out] at HIT hsz
  have hvv : vnum i = ⟨#[118]⟩ ++ dg := by rw [← HDG.out]; rfl
  rw [hvv] at hvok
  have hs2 : ¬ (9223372036854775807 < 1 + dg.size) := by omega
  have hmk : ∀ w : World, (Instr.makeSlice 23 (.int .i64 2) (.int .i64 2)).run Tryd.prog w = .ok (.slice (some ⟨w.heap.size, 0, none⟩) 2 2) (w.alloc (.cells (madeCells #[.int .i64 0, .slice none 0 0, .slice none 0 0, .slice none 0 0, .slice none 0 0] (2 * 5)) 46)) := fun w => make_sess 2 (by omega) w
  clear hF hn hnb hpk hi HDG hvv
  go_enter Tryd.func7, Tryd.ntmps7
  go_wp2_with fail
  refine (HP.out _).mono ?_
  rintro e w' ⟨rfl, rfl⟩
  go_wp2_with fail
  refine HIT.out.mono ?_
  rintro e w1 ⟨rfl, hb1⟩
  have hz1 := hb1.size
  have HB1 := Lib.hid hb1
  have HV := Lib.hid hvok
  clear hb1 hvok HIT HP
  go_wp2_with fail
  generalize hvv : (⟨#[118]⟩ ++ dg : ByteArray) = vv at *
  clear hvv hs2 hsz hmk
  have HV2 := cs_ok2 HV.out
  have HV3 := cs_ok3 HV.out
  obtain ⟨W6, hW6, hW6r, hW6s⟩ := com_put2 vv
  have HR6 := Lib.hid hW6r
  have H1 := Lib.hid (fun (r s v : Value) (wc : World) (h1 : Wld wc wc.heap.size r s cs0) (h2 : SLst wc wc.heap.size v [(1, ⟨#[]⟩, ⟨#[]⟩), (10, rowK, vv), (7, rowK, ⟨#[]⟩)]) (h3 : Words wc) => said_any r s cs0 0 v _ wc h1 h2 h3 cs_ok0 (by decide) (fun t ht => by
    simp only [List.mem_cons, List.not_mem_nil, or_false] at ht
    rcases ht with rfl | rfl | rfl
    · exact small_ok (n := 1) (by decide) (by decide)
    · exact HV.out
    · exact read_row))
  have H1' : Hid (∀ (r s v : Value) (wc : World), Wld wc wc.heap.size r s cs0 → SLst wc wc.heap.size v [(1, ⟨#[]⟩, ⟨#[]⟩), (10, rowK, vv), (7, rowK, ⟨#[]⟩)] → Words wc →
      Calls Tryd.prog 18 #[.agg #[r, s], .int .i64 0, v] wc fun e w' => ∃ D d A c, e = .returned (.tuple #[.agg #[.slice D (cs2 vv).rows.length d, .slice A (cs2 vv).ss.length c], .agg #[.int .i64 2, .string vv, .int .i64 1], .bool true]) ∧ Wld w' w'.heap.size (.slice D (cs2 vv).rows.length d) (.slice A (cs2 vv).ss.length c) (cs2 vv) ∧ Below wc.heap.size wc w') := Lib.hid fun r s v wc h1 h2 h3 => by
    refine (H1.out r s v wc h1 h2 h3).mono ?_
    rintro e w' ⟨r', s', rfl, hw, hb⟩
    have e1 := cs_s1 vv (⟨0, ⟨#[]⟩⟩, 0)
    simp only [List.map, toR, e1.1, e1.2] at hw ⊢
    obtain ⟨A, c, rfl, _⟩ := hw.sess.form
    obtain ⟨D, d, rfl, _⟩ := hw.rows.form
    exact ⟨D, d, A, c, rfl, hw, hb⟩
  have H2 := Lib.hid (said_one (t := 27) (com_read1 vv) (show ((cs2 vv).at 1).st = 0 from rfl) HV2 (by simp [cs2]) read_row)
  have H3 := Lib.hid (said_one (t := 27) (com_put1 vv) (show ((cs2 vv).at 1).st = 0 from rfl) HV2 (by simp [cs2]) HV.out)
  have H4 := Lib.hid (said_one (t := 27) (com_commit vv) (show ((cs3 vv).at 0).st = 0 from rfl) HV2 (by simp [cs2]) (small_ok (n := 2) (by decide) (by decide)))
  have H5 := Lib.hid (said_one (t := 27) (com_read2 vv) (show ((cs3 vv).at 1).st = 0 from rfl) HV3 (by simp [cs3]) read_row)
  have H6 := Lib.hid (said_one (t := 27) hW6 hW6s HV3 (by simp [cs3]) HV.out)
  clear HV2 HV3 hW6 hW6r hW6s H1
  have nS := (Below.refl w1.heap.size w1).alloc (Nat.le_refl _) (.cells (madeCells #[.int .i64 0, .slice none 0 0, .slice none 0 0, .slice none 0 0, .slice none 0 0] (2 * 5)) 46)
  have xS := RowTo.whole w1 (madeCells #[.int .i64 0, .slice none 0 0, .slice none 0 0, .slice none 0 0, .slice none 0 0] (2 * 5)) 46
  rw [madeCells_size] at xS
  have hsS := made_sess xS (by omega)
  obtain ⟨q0, HQ0⟩ : ∃ q, Hid (w1.alloc (.cells (madeCells #[.int .i64 0, .slice none 0 0, .slice none 0 0, .slice none 0 0, .slice none 0 0] (2 * 5)) 46) = q) := ⟨_, Lib.hid rfl⟩
  rw [HQ0.out] at hsS nS
  have hgo := HQ0.out
  simp only [show 2 * 5 = 10 from rfl] at hgo
  rw [hgo]
  have hq0 : q0.heap.size = w1.heap.size + 1 := by rw [← HQ0.out]; simp
  clear hgo HQ0 xS
  have nA := ((((Below.refl q0.heap.size q0).alloc (Nat.le_refl _) (.cells #[.slice none 0 0, .slice (some ⟨w1.heap.size, 0, none⟩) 2 2] 25)).alloc (by simp) (.cells #[.int .i64 7, .string ⟨#[114, 111, 119]⟩, .string ⟨#[]⟩] 27)).alloc (by simp; omega) (.cells #[.int .i64 10, .string ⟨#[114, 111, 119]⟩, .string vv] 27))
  have x0 := ((RowTo.whole q0 #[.slice none 0 0, .slice (some ⟨w1.heap.size, 0, none⟩) 2 2] 25).alloc (.cells #[.int .i64 7, .string ⟨#[114, 111, 119]⟩, .string ⟨#[]⟩] 27)).alloc (.cells #[.int .i64 10, .string ⟨#[114, 111, 119]⟩, .string vv] 27)
  have x1 := (RowTo.whole (q0.alloc (.cells #[.slice none 0 0, .slice (some ⟨w1.heap.size, 0, none⟩) 2 2] 25)) #[.int .i64 7, .string ⟨#[114, 111, 119]⟩, .string ⟨#[]⟩] 27).alloc (.cells #[.int .i64 10, .string ⟨#[114, 111, 119]⟩, .string vv] 27)
  have x2 := RowTo.whole ((q0.alloc (.cells #[.slice none 0 0, .slice (some ⟨w1.heap.size, 0, none⟩) 2 2] 25)).alloc (.cells #[.int .i64 7, .string ⟨#[114, 111, 119]⟩, .string ⟨#[]⟩] 27)) #[.int .i64 10, .string ⟨#[114, 111, 119]⟩, .string vv] 27
  simp only [World.size_alloc, hq0] at x0 x1 x2
  have hw0 : Wld q0 q0.heap.size (.slice none 0 0) (.slice (some ⟨w1.heap.size, 0, none⟩) 2 2) cs0 := ⟨Lst.none_ _ _, hsS⟩
  have HC := Lib.hid (show ComAt w (((q0.alloc (.cells #[.slice none 0 0, .slice (some ⟨w1.heap.size, 0, none⟩) 2 2] 25)).alloc (.cells #[.int .i64 7, .string ⟨#[114, 111, 119]⟩, .string ⟨#[]⟩] 27)).alloc (.cells #[.int .i64 10, .string ⟨#[114, 111, 119]⟩, .string vv] 27)) (w1.heap.size + 1) vv [] (.slice none 0 0) (.slice (some ⟨w1.heap.size, 0, none⟩) 2 2) cs0 from
    ⟨x0, x1, x2, fun p hp => (by cases hp), hw0.step nA, bel_add' (bel_add' HB1.out nS HB1.out.size) nA (bel_add' HB1.out nS HB1.out.size).size, by omega⟩)
  obtain ⟨u0, HU⟩ : ∃ u, Hid ((((q0.alloc (.cells #[.slice none 0 0, .slice (some ⟨w1.heap.size, 0, none⟩) 2 2] 25)).alloc (.cells #[.int .i64 7, .string ⟨#[114, 111, 119]⟩, .string ⟨#[]⟩] 27)).alloc (.cells #[.int .i64 10, .string ⟨#[114, 111, 119]⟩, .string vv] 27)) = u) := ⟨_, Lib.hid rfl⟩
  rw [HU.out] at HC ⊢
  have hu0 : u0.heap.size = w1.heap.size + 1 + 1 + 1 + 1 := by rw [← HU.out]; simp [hq0]
  clear HU nA x0 x1 x2 hw0 hsS nS hq0 HB1
  have nn := (Below.refl u0.heap.size u0).alloc (Nat.le_refl _) (.cells #[.int .i64 1, .string ⟨#[]⟩, .string ⟨#[]⟩, .int .i64 10, .string ⟨#[114, 111, 119]⟩, .string vv, .int .i64 7, .string ⟨#[114, 111, 119]⟩, .string ⟨#[]⟩] 27)
  have Y := RowTo.whole u0 #[.int .i64 1, .string ⟨#[]⟩, .string ⟨#[]⟩, .int .i64 10, .string ⟨#[114, 111, 119]⟩, .string vv, .int .i64 7, .string ⟨#[114, 111, 119]⟩, .string ⟨#[]⟩] 27
  rw [hu0] at Y
  have hsl : SLst (u0.alloc (.cells #[.int .i64 1, .string ⟨#[]⟩, .string ⟨#[]⟩, .int .i64 10, .string ⟨#[114, 111, 119]⟩, .string vv, .int .i64 7, .string ⟨#[114, 111, 119]⟩, .string ⟨#[]⟩] 27)) (u0.alloc (.cells #[.int .i64 1, .string ⟨#[]⟩, .string ⟨#[]⟩, .int .i64 10, .string ⟨#[114, 111, 119]⟩, .string vv, .int .i64 7, .string ⟨#[114, 111, 119]⟩, .string ⟨#[]⟩] 27)).heap.size (.slice (some ⟨w1.heap.size + 1 + 1 + 1 + 1, 0, none⟩) 3 3) [(1, ⟨#[]⟩, ⟨#[]⟩), (10, rowK, vv), (7, rowK, ⟨#[]⟩)] := sl_three Y
  refine (H1'.out _ _ _ _ (HC.out.wld.step nn) hsl (HWo.out.below (bel_add' HC.out.bel nn HC.out.bel.size))).mono ?_
  rintro e v1 ⟨D1, d1, A1, c1, rfl, hw, hb⟩
  clear nn Y hsl H1'
  have hz1 := hb.size
  simp only [World.size_alloc] at hz1
  have hbw := HC.out.pt.lt
  have hN := HC.out.next (.cells #[.int .i64 1, .string ⟨#[]⟩, .string ⟨#[]⟩, .int .i64 10, .string ⟨#[114, 111, 119]⟩, .string vv, .int .i64 7, .string ⟨#[114, 111, 119]⟩, .string ⟨#[]⟩] 27) hb hw (2) (vv) (1)
  have hX := ((HC.out.x.alloc (.cells #[.int .i64 1, .string ⟨#[]⟩, .string ⟨#[]⟩, .int .i64 10, .string ⟨#[114, 111, 119]⟩, .string vv, .int .i64 7, .string ⟨#[114, 111, 119]⟩, .string ⟨#[]⟩] 27)).below hb (HC.out.x.alloc (.cells #[.int .i64 1, .string ⟨#[]⟩, .string ⟨#[]⟩, .int .i64 10, .string ⟨#[114, 111, 119]⟩, .string vv, .int .i64 7, .string ⟨#[114, 111, 119]⟩, .string ⟨#[]⟩] 27)).lt).alloc (.cells #[.int .i64 0, .string ⟨#[]⟩, .int .i64 0] 30)
  have hZ := (RowTo.whole v1 #[.int .i64 0, .string ⟨#[]⟩, .int .i64 0] 30).oth2 (R := w1.heap.size + 1) (by omega) (.slice D1 (cs2 vv).rows.length d1) (.slice A1 (cs2 vv).ss.length c1)
  obtain ⟨a0, a1⟩ := cells2 hX
  obtain ⟨b0, b1, b2⟩ := cells3 hZ
  have f0 := hX.frozen 0
  have f1 := hX.frozen 1
  have g0 := hZ.frozen 0
  have g1 := hZ.frozen 1
  have g2 := hZ.frozen 2
  have HN := Lib.hid hN
  have e1 : w1.heap.size + 1 ≠ v1.heap.size := by omega
  clear hN hX hZ hb hw HC
  go_simp
  iterate 26 (first | go_values | go_skip | go_guarded | go_step | go_upon)
  clear a0 a1 b0 b1 b2 f0 f1 g0 g1 g2 e1
  obtain ⟨u1, HU⟩ : ∃ u, Hid ((((((v1.alloc (.cells #[.int .i64 0, .string ⟨#[]⟩, .int .i64 0] 30)).setCell ⟨w1.heap.size + 1, 0, none⟩ (.slice D1 (cs2 vv).rows.length d1)).setCell ⟨w1.heap.size + 1, 1, none⟩ (.slice A1 (cs2 vv).ss.length c1)).setCell ⟨v1.heap.size, 0, none⟩ (.int .i64 (2))).setCell ⟨v1.heap.size, 1, none⟩ (.string (vv))).setCell ⟨v1.heap.size, 2, none⟩ (.int .i64 (1)) = u) := ⟨_, Lib.hid rfl⟩
  rw [HU.out] at HN ⊢
  have hu1 : u1.heap.size = v1.heap.size + 1 := by rw [← HU.out]; simp [World.setCell]
  have HC := HN
  clear HU HN
  obtain ⟨y0, y1⟩ := cells2 HC.out.x
  obtain ⟨r0, r1, r2⟩ := cells3 HC.out.rd
  obtain ⟨p0, p1, p2⟩ := cells3 HC.out.pt
  go_wp2_with fail
  clear y0 y1 r0 r1 r2 p0 p1 p2
  have nn := (Below.refl u1.heap.size u1).alloc (Nat.le_refl _) (.cells #[.int .i64 7, .string ⟨#[114, 111, 119]⟩, .string ⟨#[]⟩] 27)
  have Y := RowTo.whole u1 #[.int .i64 7, .string ⟨#[114, 111, 119]⟩, .string ⟨#[]⟩] 27
  rw [hu1] at Y
  have hcl := H2.out _ _ _ _ (HC.out.wld.step nn) Y (HWo.out.below (bel_add' HC.out.bel nn HC.out.bel.size))
  refine hcl.mono ?_
  rintro e v2 ⟨D2, d2, A2, c2, rfl, hw, hb⟩
  clear nn Y hcl H2
  (try unfold ok')
  (try unfold no')
  have hz2 := hb.size
  simp only [World.size_alloc] at hz2
  have hbw := HC.out.pt.lt
  have hN := HC.out.next (.cells #[.int .i64 7, .string ⟨#[114, 111, 119]⟩, .string ⟨#[]⟩] 27) hb hw (3) (⟨#[]⟩) (0)
  have hX := ((HC.out.x.alloc (.cells #[.int .i64 7, .string ⟨#[114, 111, 119]⟩, .string ⟨#[]⟩] 27)).below hb (HC.out.x.alloc (.cells #[.int .i64 7, .string ⟨#[114, 111, 119]⟩, .string ⟨#[]⟩] 27)).lt).alloc (.cells #[.int .i64 0, .string ⟨#[]⟩, .int .i64 0] 30)
  have hZ := (RowTo.whole v2 #[.int .i64 0, .string ⟨#[]⟩, .int .i64 0] 30).oth2 (R := w1.heap.size + 1) (by omega) (.slice D2 (cs2 vv).rows.length d2) (.slice A2 (cs2 vv).ss.length c2)
  obtain ⟨a0, a1⟩ := cells2 hX
  obtain ⟨b0, b1, b2⟩ := cells3 hZ
  have f0 := hX.frozen 0
  have f1 := hX.frozen 1
  have g0 := hZ.frozen 0
  have g1 := hZ.frozen 1
  have g2 := hZ.frozen 2
  have HN := Lib.hid hN
  have e1 : w1.heap.size + 1 ≠ v2.heap.size := by omega
  clear hN hX hZ hb hw HC
  go_simp
  iterate 26 (first | go_values | go_skip | go_guarded | go_step | go_upon)
  clear a0 a1 b0 b1 b2 f0 f1 g0 g1 g2 e1
  obtain ⟨u2, HU⟩ : ∃ u, Hid ((((((v2.alloc (.cells #[.int .i64 0, .string ⟨#[]⟩, .int .i64 0] 30)).setCell ⟨w1.heap.size + 1, 0, none⟩ (.slice D2 (cs2 vv).rows.length d2)).setCell ⟨w1.heap.size + 1, 1, none⟩ (.slice A2 (cs2 vv).ss.length c2)).setCell ⟨v2.heap.size, 0, none⟩ (.int .i64 (3))).setCell ⟨v2.heap.size, 1, none⟩ (.string (⟨#[]⟩))).setCell ⟨v2.heap.size, 2, none⟩ (.int .i64 (0)) = u) := ⟨_, Lib.hid rfl⟩
  rw [HU.out] at HN ⊢
  have hu2 : u2.heap.size = v2.heap.size + 1 := by rw [← HU.out]; simp [World.setCell]
  have HC := HN
  clear HU HN
  obtain ⟨y0, y1⟩ := cells2 HC.out.x
  obtain ⟨r0, r1, r2⟩ := cells3 HC.out.rd
  obtain ⟨p0, p1, p2⟩ := cells3 HC.out.pt
  go_wp2_with fail
  clear y0 y1 r0 r1 r2 p0 p1 p2
  have nn := (Below.refl u2.heap.size u2).alloc (Nat.le_refl _) (.cells #[.int .i64 10, .string ⟨#[114, 111, 119]⟩, .string vv] 27)
  have Y := RowTo.whole u2 #[.int .i64 10, .string ⟨#[114, 111, 119]⟩, .string vv] 27
  rw [hu2] at Y
  have hcl := H3.out _ _ _ _ (HC.out.wld.step nn) Y (HWo.out.below (bel_add' HC.out.bel nn HC.out.bel.size))
  refine hcl.mono ?_
  rintro e v3 ⟨D3, d3, A3, c3, rfl, hw, hb⟩
  clear nn Y hcl H3
  (try unfold ok')
  (try unfold no')
  have hz3 := hb.size
  simp only [World.size_alloc] at hz3
  have hbw := HC.out.pt.lt
  have hN := HC.out.next (.cells #[.int .i64 10, .string ⟨#[114, 111, 119]⟩, .string vv] 27) hb hw (4) (tHeld) (0)
  have hX := ((HC.out.x.alloc (.cells #[.int .i64 10, .string ⟨#[114, 111, 119]⟩, .string vv] 27)).below hb (HC.out.x.alloc (.cells #[.int .i64 10, .string ⟨#[114, 111, 119]⟩, .string vv] 27)).lt).alloc (.cells #[.int .i64 0, .string ⟨#[]⟩, .int .i64 0] 30)
  have hZ := (RowTo.whole v3 #[.int .i64 0, .string ⟨#[]⟩, .int .i64 0] 30).oth2 (R := w1.heap.size + 1) (by omega) (.slice D3 (cs2 vv).rows.length d3) (.slice A3 (cs2 vv).ss.length c3)
  obtain ⟨a0, a1⟩ := cells2 hX
  obtain ⟨b0, b1, b2⟩ := cells3 hZ
  have f0 := hX.frozen 0
  have f1 := hX.frozen 1
  have g0 := hZ.frozen 0
  have g1 := hZ.frozen 1
  have g2 := hZ.frozen 2
  have HN := Lib.hid hN
  have e1 : w1.heap.size + 1 ≠ v3.heap.size := by omega
  clear hN hX hZ hb hw HC
  go_simp
  iterate 26 (first | go_values | go_skip | go_guarded | go_step | go_upon)
  clear a0 a1 b0 b1 b2 f0 f1 g0 g1 g2 e1
  obtain ⟨u3, HU⟩ : ∃ u, Hid ((((((v3.alloc (.cells #[.int .i64 0, .string ⟨#[]⟩, .int .i64 0] 30)).setCell ⟨w1.heap.size + 1, 0, none⟩ (.slice D3 (cs2 vv).rows.length d3)).setCell ⟨w1.heap.size + 1, 1, none⟩ (.slice A3 (cs2 vv).ss.length c3)).setCell ⟨v3.heap.size, 0, none⟩ (.int .i64 (4))).setCell ⟨v3.heap.size, 1, none⟩ (.string (tHeld))).setCell ⟨v3.heap.size, 2, none⟩ (.int .i64 (0)) = u) := ⟨_, Lib.hid rfl⟩
  rw [HU.out] at HN ⊢
  have hu3 : u3.heap.size = v3.heap.size + 1 := by rw [← HU.out]; simp [World.setCell]
  have HC := HN
  clear HU HN
  obtain ⟨y0, y1⟩ := cells2 HC.out.x
  obtain ⟨r0, r1, r2⟩ := cells3 HC.out.rd
  obtain ⟨p0, p1, p2⟩ := cells3 HC.out.pt
  go_wp2_with fail
  clear y0 y1 r0 r1 r2 p0 p1 p2
  have nn := (Below.refl u3.heap.size u3).alloc (Nat.le_refl _) (.cells #[.int .i64 2, .string ⟨#[]⟩, .string ⟨#[]⟩] 27)
  have Y := RowTo.whole u3 #[.int .i64 2, .string ⟨#[]⟩, .string ⟨#[]⟩] 27
  rw [hu3] at Y
  have hcl := H4.out _ _ _ _ (HC.out.wld.step nn) Y (HWo.out.below (bel_add' HC.out.bel nn HC.out.bel.size))
  refine hcl.mono ?_
  rintro e v4 ⟨D4, d4, A4, c4, rfl, hw, hb⟩
  clear nn Y hcl H4
  (try unfold ok')
  (try unfold no')
  have hz4 := hb.size
  simp only [World.size_alloc] at hz4
  have hbw := HC.out.pt.lt
  have hN := HC.out.next (.cells #[.int .i64 2, .string ⟨#[]⟩, .string ⟨#[]⟩] 27) hb hw (1) (⟨#[]⟩) (0)
  have hX := ((HC.out.x.alloc (.cells #[.int .i64 2, .string ⟨#[]⟩, .string ⟨#[]⟩] 27)).below hb (HC.out.x.alloc (.cells #[.int .i64 2, .string ⟨#[]⟩, .string ⟨#[]⟩] 27)).lt).alloc (.cells #[.int .i64 0, .string ⟨#[]⟩, .int .i64 0] 30)
  have hZ := (RowTo.whole v4 #[.int .i64 0, .string ⟨#[]⟩, .int .i64 0] 30).oth2 (R := w1.heap.size + 1) (by omega) (.slice D4 (cs3 vv).rows.length d4) (.slice A4 (cs3 vv).ss.length c4)
  obtain ⟨a0, a1⟩ := cells2 hX
  obtain ⟨b0, b1, b2⟩ := cells3 hZ
  have f0 := hX.frozen 0
  have f1 := hX.frozen 1
  have g0 := hZ.frozen 0
  have g1 := hZ.frozen 1
  have g2 := hZ.frozen 2
  have HN := Lib.hid hN
  have e1 : w1.heap.size + 1 ≠ v4.heap.size := by omega
  clear hN hX hZ hb hw HC
  go_simp
  iterate 26 (first | go_values | go_skip | go_guarded | go_step | go_upon)
  clear a0 a1 b0 b1 b2 f0 f1 g0 g1 g2 e1
  obtain ⟨u4, HU⟩ : ∃ u, Hid ((((((v4.alloc (.cells #[.int .i64 0, .string ⟨#[]⟩, .int .i64 0] 30)).setCell ⟨w1.heap.size + 1, 0, none⟩ (.slice D4 (cs3 vv).rows.length d4)).setCell ⟨w1.heap.size + 1, 1, none⟩ (.slice A4 (cs3 vv).ss.length c4)).setCell ⟨v4.heap.size, 0, none⟩ (.int .i64 (1))).setCell ⟨v4.heap.size, 1, none⟩ (.string (⟨#[]⟩))).setCell ⟨v4.heap.size, 2, none⟩ (.int .i64 (0)) = u) := ⟨_, Lib.hid rfl⟩
  rw [HU.out] at HN ⊢
  have hu4 : u4.heap.size = v4.heap.size + 1 := by rw [← HU.out]; simp [World.setCell]
  have HC := HN
  clear HU HN
  obtain ⟨y0, y1⟩ := cells2 HC.out.x
  obtain ⟨r0, r1, r2⟩ := cells3 HC.out.rd
  obtain ⟨p0, p1, p2⟩ := cells3 HC.out.pt
  go_wp2_with fail
  clear y0 y1 r0 r1 r2 p0 p1 p2
  have nn := (Below.refl u4.heap.size u4).alloc (Nat.le_refl _) (.cells #[.int .i64 7, .string ⟨#[114, 111, 119]⟩, .string ⟨#[]⟩] 27)
  have Y := RowTo.whole u4 #[.int .i64 7, .string ⟨#[114, 111, 119]⟩, .string ⟨#[]⟩] 27
  rw [hu4] at Y
  have hcl := H5.out _ _ _ _ (HC.out.wld.step nn) Y (HWo.out.below (bel_add' HC.out.bel nn HC.out.bel.size))
  refine hcl.mono ?_
  rintro e v5 ⟨D5, d5, A5, c5, rfl, hw, hb⟩
  clear nn Y hcl H5
  (try unfold ok')
  (try unfold no')
  have hz5 := hb.size
  simp only [World.size_alloc] at hz5
  have hbw := HC.out.pt.lt
  have hN := HC.out.next (.cells #[.int .i64 7, .string ⟨#[114, 111, 119]⟩, .string ⟨#[]⟩] 27) hb hw (2) (vv) (0)
  have hX := ((HC.out.x.alloc (.cells #[.int .i64 7, .string ⟨#[114, 111, 119]⟩, .string ⟨#[]⟩] 27)).below hb (HC.out.x.alloc (.cells #[.int .i64 7, .string ⟨#[114, 111, 119]⟩, .string ⟨#[]⟩] 27)).lt).alloc (.cells #[.int .i64 0, .string ⟨#[]⟩, .int .i64 0] 30)
  have hZ := (RowTo.whole v5 #[.int .i64 0, .string ⟨#[]⟩, .int .i64 0] 30).oth2 (R := w1.heap.size + 1) (by omega) (.slice D5 (cs3 vv).rows.length d5) (.slice A5 (cs3 vv).ss.length c5)
  obtain ⟨a0, a1⟩ := cells2 hX
  obtain ⟨b0, b1, b2⟩ := cells3 hZ
  have f0 := hX.frozen 0
  have f1 := hX.frozen 1
  have g0 := hZ.frozen 0
  have g1 := hZ.frozen 1
  have g2 := hZ.frozen 2
  have HN := Lib.hid hN
  have e1 : w1.heap.size + 1 ≠ v5.heap.size := by omega
  clear hN hX hZ hb hw HC
  go_simp
  iterate 26 (first | go_values | go_skip | go_guarded | go_step | go_upon)
  clear a0 a1 b0 b1 b2 f0 f1 g0 g1 g2 e1
  obtain ⟨u5, HU⟩ : ∃ u, Hid ((((((v5.alloc (.cells #[.int .i64 0, .string ⟨#[]⟩, .int .i64 0] 30)).setCell ⟨w1.heap.size + 1, 0, none⟩ (.slice D5 (cs3 vv).rows.length d5)).setCell ⟨w1.heap.size + 1, 1, none⟩ (.slice A5 (cs3 vv).ss.length c5)).setCell ⟨v5.heap.size, 0, none⟩ (.int .i64 (2))).setCell ⟨v5.heap.size, 1, none⟩ (.string (vv))).setCell ⟨v5.heap.size, 2, none⟩ (.int .i64 (0)) = u) := ⟨_, Lib.hid rfl⟩
  rw [HU.out] at HN ⊢
  have hu5 : u5.heap.size = v5.heap.size + 1 := by rw [← HU.out]; simp [World.setCell]
  have HC := HN
  clear HU HN
  obtain ⟨y0, y1⟩ := cells2 HC.out.x
  obtain ⟨r0, r1, r2⟩ := cells3 HC.out.rd
  obtain ⟨p0, p1, p2⟩ := cells3 HC.out.pt
  go_wp2_with fail
  clear y0 y1 r0 r1 r2 p0 p1 p2
  have nn := (Below.refl u5.heap.size u5).alloc (Nat.le_refl _) (.cells #[.int .i64 10, .string ⟨#[114, 111, 119]⟩, .string vv] 27)
  have Y := RowTo.whole u5 #[.int .i64 10, .string ⟨#[114, 111, 119]⟩, .string vv] 27
  rw [hu5] at Y
  have hcl := H6.out _ _ _ _ (HC.out.wld.step nn) Y (HWo.out.below (bel_add' HC.out.bel nn HC.out.bel.size))
  refine hcl.mono ?_
  rintro e v6 ⟨D6, d6, A6, c6, rfl, hw, hb⟩
  clear nn Y hcl H6
  (try unfold ok')
  (try unfold no')
  have hz6 := hb.size
  simp only [World.size_alloc] at hz6
  have hbw := HC.out.pt.lt
  have hN := HC.out.next (.cells #[.int .i64 10, .string ⟨#[114, 111, 119]⟩, .string vv] 27) hb hw (1) (⟨#[]⟩) (0)
  have hX := ((HC.out.x.alloc (.cells #[.int .i64 10, .string ⟨#[114, 111, 119]⟩, .string vv] 27)).below hb (HC.out.x.alloc (.cells #[.int .i64 10, .string ⟨#[114, 111, 119]⟩, .string vv] 27)).lt).alloc (.cells #[.int .i64 0, .string ⟨#[]⟩, .int .i64 0] 30)
  have hZ := (RowTo.whole v6 #[.int .i64 0, .string ⟨#[]⟩, .int .i64 0] 30).oth2 (R := w1.heap.size + 1) (by omega) (.slice D6 W6.rows.length d6) (.slice A6 W6.ss.length c6)
  obtain ⟨a0, a1⟩ := cells2 hX
  obtain ⟨b0, b1, b2⟩ := cells3 hZ
  have f0 := hX.frozen 0
  have f1 := hX.frozen 1
  have g0 := hZ.frozen 0
  have g1 := hZ.frozen 1
  have g2 := hZ.frozen 2
  have HN := Lib.hid hN
  have e1 : w1.heap.size + 1 ≠ v6.heap.size := by omega
  clear hN hX hZ hb hw HC
  go_simp
  iterate 26 (first | go_values | go_skip | go_guarded | go_step | go_upon)
  clear a0 a1 b0 b1 b2 f0 f1 g0 g1 g2 e1
  obtain ⟨u6, HU⟩ : ∃ u, Hid ((((((v6.alloc (.cells #[.int .i64 0, .string ⟨#[]⟩, .int .i64 0] 30)).setCell ⟨w1.heap.size + 1, 0, none⟩ (.slice D6 W6.rows.length d6)).setCell ⟨w1.heap.size + 1, 1, none⟩ (.slice A6 W6.ss.length c6)).setCell ⟨v6.heap.size, 0, none⟩ (.int .i64 (1))).setCell ⟨v6.heap.size, 1, none⟩ (.string (⟨#[]⟩))).setCell ⟨v6.heap.size, 2, none⟩ (.int .i64 (0)) = u) := ⟨_, Lib.hid rfl⟩
  rw [HU.out] at HN ⊢
  have hu6 : u6.heap.size = v6.heap.size + 1 := by rw [← HU.out]; simp [World.setCell]
  have HC := HN
  clear HU HN
  obtain ⟨y0, y1⟩ := cells2 HC.out.x
  obtain ⟨r0, r1, r2⟩ := cells3 HC.out.rd
  obtain ⟨p0, p1, p2⟩ := cells3 HC.out.pt
  obtain ⟨_, R1⟩ := HC.out.an (v1.heap.size, 2, vv, 1) (by simp)
  obtain ⟨_, R2⟩ := HC.out.an (v2.heap.size, 3, ⟨#[]⟩, 0) (by simp)
  obtain ⟨_, R3⟩ := HC.out.an (v3.heap.size, 4, tHeld, 0) (by simp)
  obtain ⟨_, R4⟩ := HC.out.an (v4.heap.size, 1, ⟨#[]⟩, 0) (by simp)
  obtain ⟨_, R5⟩ := HC.out.an (v5.heap.size, 2, vv, 0) (by simp)
  obtain ⟨_, R6⟩ := HC.out.an (v6.heap.size, 1, ⟨#[]⟩, 0) (by simp)
  obtain ⟨m10, m11, m12⟩ := cells3 R1
  obtain ⟨m20, m21, m22⟩ := cells3 R2
  obtain ⟨m30, m31, m32⟩ := cells3 R3
  obtain ⟨m40, m41, m42⟩ := cells3 R4
  obtain ⟨m50, m51, m52⟩ := cells3 R5
  obtain ⟨m60, m61, m62⟩ := cells3 R6
  have hl6 := HR6.out
  have HB := Lib.hid HC.out.bel
  clear HC HR6 R1 R2 R3 R4 R5 R6 r0 r1 r2 p0 p1 p2
  generalize W6.rows.length = n6 at *
  subst hl6
  as_aux_lemma =>
    go_wp2
    go_ret
    exact ⟨rfl, HB.out⟩
end Go.Proofs.YtpbaobmegomfpabDoor

