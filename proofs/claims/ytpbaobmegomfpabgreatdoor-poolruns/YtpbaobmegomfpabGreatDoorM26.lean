/-
  Texts of the proof, one behind the other: OpenR, Itoa, Picked, RawS.
-/
import Derived.Test.YtpbaobmegomfpabGreatDoorM25
import Derived.Test.YtpbaobmegomfpabGreatDoorM23
import Derived.Test.YtpbaobmegomfpabGreatDoorRows
import Derived.WalkKit
import Derived.WalkSpells
import Derived.WalkLawsBesides
import Derived.Lib.Hide
import Derived.Test.YtpbaobmegomfpabGreatDoorM1
set_option linter.unusedVariables false
set_option linter.unusedSimpArgs false
set_option maxRecDepth 100000
open List renaming getElem_toArray → gTA, getElem_cons_zero → gCZ, getElem_cons_succ → gCS, setIfInBounds_toArray → sTA, set_cons_zero → sCZ, set_cons_succ → sCS
open Go.Lib renaming hid → jD
open Nat renaming le_refl → nL
namespace Go.Proofs.YtpbaobmegomfpabGreatDoor
open Go.RowKit Go.ChangeShapes Go.WideShapes Go.Deep Go.Joins
structure Raw.wf (r : Raw) : Prop where
 k : (Lit.int .i64 r.kd).wf = true
 a : (Lit.int .i64 r.a).wf = true
 b : (Lit.int .i64 r.b).wf = true
 c : (Lit.int .i64 r.c).wf = true
structure RLst (w : World) (B : Nat) (v : Value) (l : List Raw) : Prop where
 form : ∃ A c, v = .slice A l.length c ∧ l.length ≤ c
 bytes : l.length * 32 ≤ 140737488351232
 wf : ∀ r ∈ l, r.wf
 cells : 0 < l.length → ∃ b off c, v = .slice (some ⟨b, off, none⟩) l.length c ∧ b < B ∧
  ∀ i (h : i < l.length), w.cell? ⟨b, off + i * 4, none⟩ = some (.int .i64 l[i].kd) ∧ w.cell? ⟨b, off + i * 4 + 1, none⟩ = some (.int .i64 l[i].a) ∧ w.cell? ⟨b, off + i * 4 + 2, none⟩ = some (.int .i64 l[i].b) ∧ w.cell? ⟨b, off + i * 4 + 3, none⟩ = some (.int .i64 l[i].c)
theorem RLst.keep {w w' : World} {B B' : Nat} {v : Value} {l : List Raw} (h : RLst w B v l) (hB : B ≤ B') (hk : ∀ p : Addr, p.block < B → w'.cell? p = w.cell? p) : RLst w' B' v l := by
 refine ⟨h.form, h.bytes, h.wf, fun hn => ?_⟩
 obtain ⟨b, off, c, e, hb, hc⟩ := h.cells hn
 exact ⟨b, off, c, e, by omega, fun i hi => ⟨(hk _ hb).trans (hc i hi).1, (hk _ hb).trans (hc i hi).2.1, (hk _ hb).trans (hc i hi).2.2.1, (hk _ hb).trans (hc i hi).2.2.2⟩⟩
theorem RLst.step {w w' : World} {v : Value} {l : List Raw} (h : RLst w w.heap.size v l) (hb : Below w.heap.size w w') : RLst w' w'.heap.size v l := h.keep hb.size fun _ hp => hb.cell hp
theorem RLst.pt {w : World} {B n c : Nat} {A : Option Addr} {l : List Raw} (h : RLst w B (.slice A n c) l) {k : Nat} (hk : k < l.length) :
  ∃ b off, A = some ⟨b, off, none⟩ ∧ b < B ∧ w.cell? ⟨b, off + k * 4, none⟩ = some (.int .i64 l[k].kd) ∧ w.cell? ⟨b, off + k * 4 + 1, none⟩ = some (.int .i64 l[k].a) ∧ w.cell? ⟨b, off + k * 4 + 2, none⟩ = some (.int .i64 l[k].b) ∧ w.cell? ⟨b, off + k * 4 + 3, none⟩ = some (.int .i64 l[k].c) := by
 obtain ⟨b, off, c', e, hb, hc⟩ := h.cells (by omega)
 injection e with e1 e2 e3
 obtain ⟨h1, h2, h3, h4⟩ := hc k hk
 exact ⟨b, off, e1, hb, h1, h2, h3, h4⟩
section
variable {H : Type} {enc : TypeId × Value → H} {w : World} {base : Nat} {spare : Nat → Bool} {held : Bool}
theorem raw_cells {n : Nat} {cs : List Value} {x : DataW H × List MemPlace} (h : DataW.trod enc Tryz.prog w base spare held n 44 cs = some x) :
  ∃ r : Raw, cs = [.int .i64 r.kd, .int .i64 r.a, .int .i64 r.b, .int .i64 r.c] ∧ r.wf := by
 obtain ⟨xs, k, _, rfl, hl, hxl, hf⟩ := DataW.trod_struct Tryz.underlying44 h
 rw [show Tryz.prog.cellsOf 44 = 4 by kernel_rfl] at hl
 match xs, hxl, cs, hl with
 | [y0, y1, y2, y3], _, [c0, c1, c2, c3], _ =>
  have ei : Tryz.prog.cellsOf 3 = 1 := by kernel_rfl
  have g0 : DataW.trod enc Tryz.prog w base spare held k 3 ((([c0, c1, c2, c3] : List Value).drop 0).take (Tryz.prog.cellsOf 3)) = some y0 := hf 0 _ rfl
  have g1 : DataW.trod enc Tryz.prog w base spare held k 3 ((([c0, c1, c2, c3] : List Value).drop 1).take (Tryz.prog.cellsOf 3)) = some y1 := hf 1 _ rfl
  have g2 : DataW.trod enc Tryz.prog w base spare held k 3 ((([c0, c1, c2, c3] : List Value).drop 2).take (Tryz.prog.cellsOf 3)) = some y2 := hf 2 _ rfl
  have g3 : DataW.trod enc Tryz.prog w base spare held k 3 ((([c0, c1, c2, c3] : List Value).drop 3).take (Tryz.prog.cellsOf 3)) = some y3 := hf 3 _ rfl
  rw [ei] at g0 g1 g2 g3
  obtain ⟨n0, e0, _, w0⟩ := DataW.trod_int Tryz.underlying3 g0
  obtain ⟨n1, e1, _, w1⟩ := DataW.trod_int Tryz.underlying3 g1
  obtain ⟨n2, e2, _, w2⟩ := DataW.trod_int Tryz.underlying3 g2
  obtain ⟨n3, e3, _, w3⟩ := DataW.trod_int Tryz.underlying3 g3
  obtain rfl : c0 = .int .i64 n0 := by simpa using e0
  obtain rfl : c1 = .int .i64 n1 := by simpa using e1
  obtain rfl : c2 = .int .i64 n2 := by simpa using e2
  obtain rfl : c3 = .int .i64 n3 := by simpa using e3
  exact ⟨⟨n0, n1, n2, n3⟩, rfl, w0, w1, w2, w3⟩
theorem open_raws {r : Reach} {b0 : Nat} {v : Value} {d : DataW H} {p : List MemPlace} (hv : Value.okWide Tryz.prog w r b0 35 v) (h : DataW.Trod enc Tryz.prog w base spare held 35 v d p)
  (hz : ∀ n ∈ d.weights Tryz.prog 35, n ≤ reachBytes) : ∃ l : List Raw, RLst w w.heap.size v l := by
 obtain ⟨a0, len0, cap0, rfl⟩ := okWide_slice Tryz.underlying35 hv
 obtain ⟨fuel, hf⟩ := h
 rcases open_slice Tryz.underlying35 hf with ⟨hcs, hx⟩ | ⟨a, len, cap, m, n, D, Pl, hcs, hb, hl, hm, hmm, hx, hi⟩
 ·have hv : (Value.slice a0 len0 cap0) = .slice none 0 0 := by simpa [Value.cells] using hcs
  rw [hv]
  exact ⟨[], ⟨none, 0, rfl, nL _⟩, by simp, by simp, fun h => absurd h (by simp)⟩
 ·have hv : (Value.slice a0 len0 cap0) = .slice (some a) len cap := by simpa [Value.cells] using hcs
  rw [hv]
  have hlm : len ≤ m := by rw [hmm]; split <;> omega
  have each : ∀ i, i < len → ∃ s : Raw, (∀ j, j < 4 → w.cell? (a.add (i * 4 + j)) = [Value.int .i64 s.kd, .int .i64 s.a, .int .i64 s.b, .int .i64 s.c][j]?) ∧ s.wf := by
   intro i hil
   obtain ⟨cs, hc, ht⟩ := hi i (by omega)
   rw [show Tryz.prog.cellsOf 44 = 4 by kernel_rfl] at hc
   obtain ⟨_, _, hcell⟩ := World.cells?_some hc
   obtain ⟨s, rfl, hwf⟩ := raw_cells ht
   refine ⟨s, fun j hj => ?_, hwf⟩
   have := hcell j hj
   rwa [Go.Deep.add_add] at this
  have : Inhabited Raw := ⟨⟨0, 0, 0, 0⟩⟩
  obtain ⟨f, hf'⟩ := choose_lt each
  have hd : d = .slice ((List.range len).map D) ((List.range (m - len)).map fun j => D (len + j)) := by injection hx
  have hby := hz ((len + (m - len)) * 32) (by
   rw [hd]
   simp only [DataW.weights, Tryz.underlying35, List.mem_cons, List.length_map, List.length_range]
   exact .inl (by rw [show Tryz.prog.bytesOf 44 = 32 by kernel_rfl]))
  have hll : ((List.range len).map f).length = len := by simp
  refine ⟨(List.range len).map f, ⟨some a, cap, by rw [hll], by rw [hll]; exact hl⟩, by rw [hll]; unfold reachBytes at hby; omega, fun s hs => ?_, fun hn => ?_⟩
  ·obtain ⟨i, hil, rfl⟩ := List.mem_map.1 hs
   exact (hf' i (List.mem_range.1 hil)).2
  ·rw [hll] at hn
   have h00 := (hf' 0 hn).1 0 (by omega)
   rw [show a.add (0 * 4 + 0) = a from rfl] at h00
   have ha := spot_none (h00.trans rfl)
   refine ⟨a.block, a.off, cap, by rw [hll, ← ha], World.block_lt_of_cell? w a (h00.trans rfl), fun i hil => ?_⟩
   rw [hll] at hil
   have hc := (hf' i hil).1
   rw [ha] at hc
   simp only [add_plain] at hc
   simp only [List.getElem_map, List.getElem_range]
   exact ⟨hc 0 (by omega), hc 1 (by omega), hc 2 (by omega), hc 3 (by omega)⟩
end
end Go.Proofs.YtpbaobmegomfpabGreatDoor
namespace Go.Proofs.YtpbaobmegomfpabGreatDoor
open Go.RowKit
set_option maxRecDepth 100000 in
set_option maxHeartbeats 1000000 in
theorem small_any (n : Nat) (w : World) (h : n < 12) :
  Calls Tryz.prog 86 #[.int .i64 n] w fun e w' => e = .returned (.string (numAt n)) ∧ w = w' := by
 obtain rfl | rfl | rfl | rfl | rfl | rfl | rfl | rfl | rfl | rfl | rfl | rfl : n = 0 ∨ n = 1 ∨ n = 2 ∨ n = 3 ∨ n = 4 ∨ n = 5 ∨ n = 6 ∨ n = 7 ∨ n = 8 ∨ n = 9 ∨ n = 10 ∨ n = 11 := by omega
 all_goals
  go_enter Tryz.func86, Tryz.ntmps86
  go_wp2
  go_ret
  exact ⟨rfl, rfl⟩
set_option maxHeartbeats 400000 in
theorem formatInt_any (n : Nat) (w : World) (h : n < 12) :
  Calls Tryz.prog 59 #[.int .i64 n, .int .i64 10] w fun e w' => e = .returned (.string (numAt n)) ∧ w = w' := by
 have d1 : decide ((n : Int) < 100) = true := decide_eq_true (by omega)
 go_enter Tryz.func59, Tryz.ntmps59
 go_wp2_with fail
 refine (small_any n _ h).mono ?_
 rintro e w1 ⟨rfl, rfl⟩
 go_wp2
 go_ret
 exact ⟨rfl, rfl⟩
theorem itoa_any (n : Nat) (w : World) (h : n < 12) :
  Calls Tryz.prog 19 #[.int .i64 n] w fun e w' => e = .returned (.string (numAt n)) ∧ w = w' := by
 go_enter Tryz.func19, Tryz.ntmps19
 go_wp2_with fail
 go_in
 go_wp2_with fail
 refine (formatInt_any n _ h).mono ?_
 rintro e w1 ⟨rfl, rfl⟩
 go_wp2
 go_ret
 exact ⟨rfl, rfl⟩
theorem i64_bd {a : Int} (h : (Lit.int .i64 a).wf = true) : -9223372036854775808 ≤ a ∧ a ≤ 9223372036854775807 := by
 simpa [Lit.wf, IntKind.min, IntKind.max, IntKind.signed, IntKind.bits] using h
set_option maxHeartbeats 400000 in
theorem picked_any (n m : Int) (w : World) (hn : -9223372036854775808 ≤ n) (hn2 : n ≤ 9223372036854775807) (hm : 0 < m) (hm2 : m ≤ 9223372036854775807) :
  Calls Tryz.prog 14 #[.int .i64 n, .int .i64 m] w fun e w' => e = .returned (.int .i64 (pickI n m)) ∧ w = w' := by
 have hm0 : (m == 0) = false := beq_eq_false_iff_ne.2 (by omega)
 by_cases h : n < 0
 ·have hp := jD (pickI_neg (m := m) h)
  have h1 : 0 ≤ -(n + 1) := by omega
  go_enter Tryz.func14, Tryz.ntmps14
  go_wp2
  go_ret
  exact ⟨ret_int (by rw [hp.out, ← Int.neg_tmod, Int.tmod_eq_emod_of_nonneg h1]), rfl⟩
 ·have hp := jD (pickI_pos (m := m) h)
  go_enter Tryz.func14, Tryz.ntmps14
  go_wp2
  go_ret
  exact ⟨by rw [hp.out]; rfl, rfl⟩
theorem pick_some (n : Int) (m : Nat) (hm : 0 < m) : ∃ p : Nat, pickI n m = (p : Int) ∧ p < m := by
 have := pickI_bd n (m := (m : Int)) (by omega)
 exact ⟨(pickI n m).toNat, by omega, by omega⟩
theorem key_get : ∀ (x : Nat) (h : x < [Value.string ⟨#[97]⟩, .string ⟨#[98]⟩, .string ⟨#[114, 111, 119]⟩, .string ⟨#[110, 97, 109, 101]⟩].length), [Value.string ⟨#[97]⟩, .string ⟨#[98]⟩, .string ⟨#[114, 111, 119]⟩, .string ⟨#[110, 97, 109, 101]⟩][x] = .string (keyAt x)
 | 0, _ => rfl
 | 1, _ => rfl
 | 2, _ => rfl
 | 3, _ => rfl
theorem kind_get : ∀ (x : Nat) (h : x < [Value.int .i64 4, .int .i64 5, .int .i64 5].length), [Value.int .i64 4, .int .i64 5, .int .i64 5][x] = .int .i64 (rawK 6 x)
 | 0, _ => rfl
 | 1, _ => rfl
 | 2, _ => rfl
theorem prep_get (b : Nat) : ∀ (x : Nat) (h : x < [Value.string ⟨#[103, 101, 116, 32, 97]⟩, .string ⟨#[114, 101, 97, 100, 32, 114, 111, 119]⟩, .string (⟨#[112, 117, 116, 32, 114, 111, 119, 32]⟩ ++ valAt b), .string ⟨#[112, 117, 116, 32, 98, 32, 120]⟩].length),
  [Value.string ⟨#[103, 101, 116, 32, 97]⟩, .string ⟨#[114, 101, 97, 100, 32, 114, 111, 119]⟩, .string (⟨#[112, 117, 116, 32, 114, 111, 119, 32]⟩ ++ valAt b), .string ⟨#[112, 117, 116, 32, 98, 32, 120]⟩][x] = .string (prepAt x b)
 | 0, _ => rfl
 | 1, _ => rfl
 | 2, _ => rfl
 | 3, _ => rfl
theorem numAt_size (n : Nat) : (numAt n).size ≤ 2 := by
 unfold numAt numL
 split
 ·show ([UInt8.ofNat (48 + n)] : List UInt8).toArray.size ≤ 2; simp
 ·show ([UInt8.ofNat (48 + n / 10), UInt8.ofNat (48 + n % 10)] : List UInt8).toArray.size ≤ 2; simp
theorem valAt_size (n : Nat) : (valAt n).size ≤ 3 := by
 have := numAt_size n
 unfold valAt; rw [ByteArray.size_append]; show 1 + _ ≤ 3; omega
set_option maxHeartbeats 1000000 in
theorem stmt_1 (kd a b c : Int) (k x y z3 z4 : Nat) (w : World) (hk1 : -9223372036854775808 ≤ kd) (hk2 : kd ≤ 9223372036854775807) (ha1 : -9223372036854775808 ≤ a) (ha2 : a ≤ 9223372036854775807) (hb1 : -9223372036854775808 ≤ b) (hb2 : b ≤ 9223372036854775807) (hc1 : -9223372036854775808 ≤ c) (hc2 : c ≤ 9223372036854775807)
  (Hk : Hid (pickI kd 24 = (k : Int))) (Hx : Hid (pickI a 4 = (x : Int))) (Hy : Hid (pickI b 12 = (y : Int))) (H3 : Hid (pickI c 3 = (z3 : Int))) (H4 : Hid (pickI c 4 = (z4 : Int))) (hk24 : k < 24) (hx4 : x < 4) (hy12 : y < 12) (hz3 : z3 < 3) (hz4 : z4 < 4) (h : k < 3) :
  Calls Tryz.prog 11 #[.agg #[.int .i64 kd, .int .i64 a, .int .i64 b, .int .i64 c]] w fun e w' => e = .returned (.agg #[.int .i64 1, .string ⟨#[]⟩, .string ⟨#[]⟩]) ∧ Below w.heap.size w w' := by
 have hns := numAt_size y
 go_enter Tryz.func11, Tryz.ntmps11
 go_wp2_with fail
 refine (picked_any a 4 _ ha1 ha2 (by omega) (by omega)).mono ?_
 rw [Hx.out]
 rintro e w1 ⟨rfl, rfl⟩
 go_wp2_with fail
 rw [key_get]
 refine (picked_any b 12 _ hb1 hb2 (by omega) (by omega)).mono ?_
 rw [Hy.out]
 rintro e w2 ⟨rfl, rfl⟩
 go_wp2_with fail
 refine (itoa_any y _ hy12).mono ?_
 rintro e w3 ⟨rfl, rfl⟩
 go_wp2_with fail
 rw [show (⟨#[118]⟩ : ByteArray) ++ numAt y = valAt y from rfl]
 have hvs := valAt_size y
 clear hns
 refine (picked_any kd 24 _ hk1 hk2 (by omega) (by omega)).mono ?_
 rw [Hk.out]
 rintro e w4 ⟨rfl, rfl⟩
 go_wp2
 refine bodyPost_ret (v := .agg #[.int .i64 1, .string ⟨#[]⟩, .string ⟨#[]⟩]) (by simp [results, Tryz.results11, go_sem]) rfl ⟨rfl, ?_⟩
 repeat' (first | exact Below.refl _ _ | assumption | with_reducible refine below_drewN ?_ _ | with_reducible refine Below.drew ?_ | with_reducible refine Below.setCell ?_ ?_ _ | with_reducible refine Below.alloc ?_ ?_ _ | (simp; done) | (simp; omega))
set_option maxHeartbeats 1000000 in
theorem stmt_2 (kd a b c : Int) (k x y z3 z4 : Nat) (w : World) (hk1 : -9223372036854775808 ≤ kd) (hk2 : kd ≤ 9223372036854775807) (ha1 : -9223372036854775808 ≤ a) (ha2 : a ≤ 9223372036854775807) (hb1 : -9223372036854775808 ≤ b) (hb2 : b ≤ 9223372036854775807) (hc1 : -9223372036854775808 ≤ c) (hc2 : c ≤ 9223372036854775807)
  (Hk : Hid (pickI kd 24 = (k : Int))) (Hx : Hid (pickI a 4 = (x : Int))) (Hy : Hid (pickI b 12 = (y : Int))) (H3 : Hid (pickI c 3 = (z3 : Int))) (H4 : Hid (pickI c 4 = (z4 : Int))) (hk24 : k < 24) (hx4 : x < 4) (hy12 : y < 12) (hz3 : z3 < 3) (hz4 : z4 < 4) (h : ¬ k < 3 ∧ k < 5) :
  Calls Tryz.prog 11 #[.agg #[.int .i64 kd, .int .i64 a, .int .i64 b, .int .i64 c]] w fun e w' => e = .returned (.agg #[.int .i64 2, .string ⟨#[]⟩, .string ⟨#[]⟩]) ∧ Below w.heap.size w w' := by
 obtain ⟨h, h'⟩ := h
 have hns := numAt_size y
 go_enter Tryz.func11, Tryz.ntmps11
 go_wp2_with fail
 refine (picked_any a 4 _ ha1 ha2 (by omega) (by omega)).mono ?_
 rw [Hx.out]
 rintro e w1 ⟨rfl, rfl⟩
 go_wp2_with fail
 rw [key_get]
 refine (picked_any b 12 _ hb1 hb2 (by omega) (by omega)).mono ?_
 rw [Hy.out]
 rintro e w2 ⟨rfl, rfl⟩
 go_wp2_with fail
 refine (itoa_any y _ hy12).mono ?_
 rintro e w3 ⟨rfl, rfl⟩
 go_wp2_with fail
 rw [show (⟨#[118]⟩ : ByteArray) ++ numAt y = valAt y from rfl]
 have hvs := valAt_size y
 clear hns
 refine (picked_any kd 24 _ hk1 hk2 (by omega) (by omega)).mono ?_
 rw [Hk.out]
 rintro e w4 ⟨rfl, rfl⟩
 go_wp2
 refine bodyPost_ret (v := .agg #[.int .i64 2, .string ⟨#[]⟩, .string ⟨#[]⟩]) (by simp [results, Tryz.results11, go_sem]) rfl ⟨rfl, ?_⟩
 repeat' (first | exact Below.refl _ _ | assumption | with_reducible refine below_drewN ?_ _ | with_reducible refine Below.drew ?_ | with_reducible refine Below.setCell ?_ ?_ _ | with_reducible refine Below.alloc ?_ ?_ _ | (simp; done) | (simp; omega))
set_option maxHeartbeats 1000000 in
theorem stmt_3 (kd a b c : Int) (k x y z3 z4 : Nat) (w : World) (hk1 : -9223372036854775808 ≤ kd) (hk2 : kd ≤ 9223372036854775807) (ha1 : -9223372036854775808 ≤ a) (ha2 : a ≤ 9223372036854775807) (hb1 : -9223372036854775808 ≤ b) (hb2 : b ≤ 9223372036854775807) (hc1 : -9223372036854775808 ≤ c) (hc2 : c ≤ 9223372036854775807)
  (Hk : Hid (pickI kd 24 = (k : Int))) (Hx : Hid (pickI a 4 = (x : Int))) (Hy : Hid (pickI b 12 = (y : Int))) (H3 : Hid (pickI c 3 = (z3 : Int))) (H4 : Hid (pickI c 4 = (z4 : Int))) (hk24 : k < 24) (hx4 : x < 4) (hy12 : y < 12) (hz3 : z3 < 3) (hz4 : z4 < 4) (h : k = 5) :
  Calls Tryz.prog 11 #[.agg #[.int .i64 kd, .int .i64 a, .int .i64 b, .int .i64 c]] w fun e w' => e = .returned (.agg #[.int .i64 3, .string ⟨#[]⟩, .string ⟨#[]⟩]) ∧ Below w.heap.size w w' := by
 subst h
 have hns := numAt_size y
 go_enter Tryz.func11, Tryz.ntmps11
 go_wp2_with fail
 refine (picked_any a 4 _ ha1 ha2 (by omega) (by omega)).mono ?_
 rw [Hx.out]
 rintro e w1 ⟨rfl, rfl⟩
 go_wp2_with fail
 rw [key_get]
 refine (picked_any b 12 _ hb1 hb2 (by omega) (by omega)).mono ?_
 rw [Hy.out]
 rintro e w2 ⟨rfl, rfl⟩
 go_wp2_with fail
 refine (itoa_any y _ hy12).mono ?_
 rintro e w3 ⟨rfl, rfl⟩
 go_wp2_with fail
 rw [show (⟨#[118]⟩ : ByteArray) ++ numAt y = valAt y from rfl]
 have hvs := valAt_size y
 clear hns
 refine (picked_any kd 24 _ hk1 hk2 (by omega) (by omega)).mono ?_
 rw [Hk.out]
 rintro e w4 ⟨rfl, rfl⟩
 go_wp2
 refine bodyPost_ret (v := .agg #[.int .i64 3, .string ⟨#[]⟩, .string ⟨#[]⟩]) (by simp [results, Tryz.results11, go_sem]) rfl ⟨rfl, ?_⟩
 repeat' (first | exact Below.refl _ _ | assumption | with_reducible refine below_drewN ?_ _ | with_reducible refine Below.drew ?_ | with_reducible refine Below.setCell ?_ ?_ _ | with_reducible refine Below.alloc ?_ ?_ _ | (simp; done) | (simp; omega))
set_option maxHeartbeats 1000000 in
theorem stmt_4 (kd a b c : Int) (k x y z3 z4 : Nat) (w : World) (hk1 : -9223372036854775808 ≤ kd) (hk2 : kd ≤ 9223372036854775807) (ha1 : -9223372036854775808 ≤ a) (ha2 : a ≤ 9223372036854775807) (hb1 : -9223372036854775808 ≤ b) (hb2 : b ≤ 9223372036854775807) (hc1 : -9223372036854775808 ≤ c) (hc2 : c ≤ 9223372036854775807)
  (Hk : Hid (pickI kd 24 = (k : Int))) (Hx : Hid (pickI a 4 = (x : Int))) (Hy : Hid (pickI b 12 = (y : Int))) (H3 : Hid (pickI c 3 = (z3 : Int))) (H4 : Hid (pickI c 4 = (z4 : Int))) (hk24 : k < 24) (hx4 : x < 4) (hy12 : y < 12) (hz3 : z3 < 3) (hz4 : z4 < 4) (h : k = 6) :
  Calls Tryz.prog 11 #[.agg #[.int .i64 kd, .int .i64 a, .int .i64 b, .int .i64 c]] w fun e w' => e = .returned (.agg #[.int .i64 (rawK 6 z3), .string ⟨#[]⟩, .string ⟨#[]⟩]) ∧ Below w.heap.size w w' := by
 subst h
 have hg := kind_get z3
 have hns := numAt_size y
 go_enter Tryz.func11, Tryz.ntmps11
 go_wp2_with fail
 refine (picked_any a 4 _ ha1 ha2 (by omega) (by omega)).mono ?_
 rw [Hx.out]
 rintro e w1 ⟨rfl, rfl⟩
 go_wp2_with fail
 rw [key_get]
 refine (picked_any b 12 _ hb1 hb2 (by omega) (by omega)).mono ?_
 rw [Hy.out]
 rintro e w2 ⟨rfl, rfl⟩
 go_wp2_with fail
 refine (itoa_any y _ hy12).mono ?_
 rintro e w3 ⟨rfl, rfl⟩
 go_wp2_with fail
 rw [show (⟨#[118]⟩ : ByteArray) ++ numAt y = valAt y from rfl]
 have hvs := valAt_size y
 clear hns
 refine (picked_any kd 24 _ hk1 hk2 (by omega) (by omega)).mono ?_
 rw [Hk.out]
 rintro e w4 ⟨rfl, rfl⟩
 go_wp2_with fail
 refine (picked_any c 3 _ hc1 hc2 (by omega) (by omega)).mono ?_
 rw [H3.out]
 rintro e w5 ⟨rfl, rfl⟩
 go_wp2_with fail
 go_wp2
 refine bodyPost_ret (v := .agg #[.int .i64 (rawK 6 z3), .string ⟨#[]⟩, .string ⟨#[]⟩]) (by simp [results, Tryz.results11, go_sem]) rfl ⟨rfl, ?_⟩
 repeat' (first | exact Below.refl _ _ | assumption | with_reducible refine below_drewN ?_ _ | with_reducible refine Below.drew ?_ | with_reducible refine Below.setCell ?_ ?_ _ | with_reducible refine Below.alloc ?_ ?_ _ | (simp; done) | (simp; omega))
set_option maxHeartbeats 1000000 in
theorem stmt_6 (kd a b c : Int) (k x y z3 z4 : Nat) (w : World) (hk1 : -9223372036854775808 ≤ kd) (hk2 : kd ≤ 9223372036854775807) (ha1 : -9223372036854775808 ≤ a) (ha2 : a ≤ 9223372036854775807) (hb1 : -9223372036854775808 ≤ b) (hb2 : b ≤ 9223372036854775807) (hc1 : -9223372036854775808 ≤ c) (hc2 : c ≤ 9223372036854775807)
  (Hk : Hid (pickI kd 24 = (k : Int))) (Hx : Hid (pickI a 4 = (x : Int))) (Hy : Hid (pickI b 12 = (y : Int))) (H3 : Hid (pickI c 3 = (z3 : Int))) (H4 : Hid (pickI c 4 = (z4 : Int))) (hk24 : k < 24) (hx4 : x < 4) (hy12 : y < 12) (hz3 : z3 < 3) (hz4 : z4 < 4) (h : 6 < k ∧ k < 10) :
  Calls Tryz.prog 11 #[.agg #[.int .i64 kd, .int .i64 a, .int .i64 b, .int .i64 c]] w fun e w' => e = .returned (.agg #[.int .i64 6, .string (keyAt x), .string ⟨#[]⟩]) ∧ Below w.heap.size w w' := by
 obtain ⟨h, h'⟩ := h
 have n5 : ((k : Int) == 5) = false := beq_eq_false_iff_ne.2 (by omega)
 have n6 : ((k : Int) == 6) = false := beq_eq_false_iff_ne.2 (by omega)
 have hns := numAt_size y
 go_enter Tryz.func11, Tryz.ntmps11
 go_wp2_with fail
 refine (picked_any a 4 _ ha1 ha2 (by omega) (by omega)).mono ?_
 rw [Hx.out]
 rintro e w1 ⟨rfl, rfl⟩
 go_wp2_with fail
 rw [key_get]
 refine (picked_any b 12 _ hb1 hb2 (by omega) (by omega)).mono ?_
 rw [Hy.out]
 rintro e w2 ⟨rfl, rfl⟩
 go_wp2_with fail
 refine (itoa_any y _ hy12).mono ?_
 rintro e w3 ⟨rfl, rfl⟩
 go_wp2_with fail
 rw [show (⟨#[118]⟩ : ByteArray) ++ numAt y = valAt y from rfl]
 have hvs := valAt_size y
 clear hns
 refine (picked_any kd 24 _ hk1 hk2 (by omega) (by omega)).mono ?_
 rw [Hk.out]
 rintro e w4 ⟨rfl, rfl⟩
 go_wp2
 refine bodyPost_ret (v := .agg #[.int .i64 6, .string (keyAt x), .string ⟨#[]⟩]) (by simp [results, Tryz.results11, go_sem]) rfl ⟨rfl, ?_⟩
 repeat' (first | exact Below.refl _ _ | assumption | with_reducible refine below_drewN ?_ _ | with_reducible refine Below.drew ?_ | with_reducible refine Below.setCell ?_ ?_ _ | with_reducible refine Below.alloc ?_ ?_ _ | (simp; done) | (simp; omega))
set_option maxHeartbeats 1000000 in
theorem stmt_7 (kd a b c : Int) (k x y z3 z4 : Nat) (w : World) (hk1 : -9223372036854775808 ≤ kd) (hk2 : kd ≤ 9223372036854775807) (ha1 : -9223372036854775808 ≤ a) (ha2 : a ≤ 9223372036854775807) (hb1 : -9223372036854775808 ≤ b) (hb2 : b ≤ 9223372036854775807) (hc1 : -9223372036854775808 ≤ c) (hc2 : c ≤ 9223372036854775807)
  (Hk : Hid (pickI kd 24 = (k : Int))) (Hx : Hid (pickI a 4 = (x : Int))) (Hy : Hid (pickI b 12 = (y : Int))) (H3 : Hid (pickI c 3 = (z3 : Int))) (H4 : Hid (pickI c 4 = (z4 : Int))) (hk24 : k < 24) (hx4 : x < 4) (hy12 : y < 12) (hz3 : z3 < 3) (hz4 : z4 < 4) (h : ¬ k < 10 ∧ k < 13) :
  Calls Tryz.prog 11 #[.agg #[.int .i64 kd, .int .i64 a, .int .i64 b, .int .i64 c]] w fun e w' => e = .returned (.agg #[.int .i64 7, .string (keyAt x), .string ⟨#[]⟩]) ∧ Below w.heap.size w w' := by
 obtain ⟨h, h'⟩ := h
 have n5 : ((k : Int) == 5) = false := beq_eq_false_iff_ne.2 (by omega)
 have n6 : ((k : Int) == 6) = false := beq_eq_false_iff_ne.2 (by omega)
 have hns := numAt_size y
 go_enter Tryz.func11, Tryz.ntmps11
 go_wp2_with fail
 refine (picked_any a 4 _ ha1 ha2 (by omega) (by omega)).mono ?_
 rw [Hx.out]
 rintro e w1 ⟨rfl, rfl⟩
 go_wp2_with fail
 rw [key_get]
 refine (picked_any b 12 _ hb1 hb2 (by omega) (by omega)).mono ?_
 rw [Hy.out]
 rintro e w2 ⟨rfl, rfl⟩
 go_wp2_with fail
 refine (itoa_any y _ hy12).mono ?_
 rintro e w3 ⟨rfl, rfl⟩
 go_wp2_with fail
 rw [show (⟨#[118]⟩ : ByteArray) ++ numAt y = valAt y from rfl]
 have hvs := valAt_size y
 clear hns
 refine (picked_any kd 24 _ hk1 hk2 (by omega) (by omega)).mono ?_
 rw [Hk.out]
 rintro e w4 ⟨rfl, rfl⟩
 go_wp2
 refine bodyPost_ret (v := .agg #[.int .i64 7, .string (keyAt x), .string ⟨#[]⟩]) (by simp [results, Tryz.results11, go_sem]) rfl ⟨rfl, ?_⟩
 repeat' (first | exact Below.refl _ _ | assumption | with_reducible refine below_drewN ?_ _ | with_reducible refine Below.drew ?_ | with_reducible refine Below.setCell ?_ ?_ _ | with_reducible refine Below.alloc ?_ ?_ _ | (simp; done) | (simp; omega))
set_option maxHeartbeats 1000000 in
theorem stmt_8 (kd a b c : Int) (k x y z3 z4 : Nat) (w : World) (hk1 : -9223372036854775808 ≤ kd) (hk2 : kd ≤ 9223372036854775807) (ha1 : -9223372036854775808 ≤ a) (ha2 : a ≤ 9223372036854775807) (hb1 : -9223372036854775808 ≤ b) (hb2 : b ≤ 9223372036854775807) (hc1 : -9223372036854775808 ≤ c) (hc2 : c ≤ 9223372036854775807)
  (Hk : Hid (pickI kd 24 = (k : Int))) (Hx : Hid (pickI a 4 = (x : Int))) (Hy : Hid (pickI b 12 = (y : Int))) (H3 : Hid (pickI c 3 = (z3 : Int))) (H4 : Hid (pickI c 4 = (z4 : Int))) (hk24 : k < 24) (hx4 : x < 4) (hy12 : y < 12) (hz3 : z3 < 3) (hz4 : z4 < 4) (h : ¬ k < 13 ∧ k < 15) :
  Calls Tryz.prog 11 #[.agg #[.int .i64 kd, .int .i64 a, .int .i64 b, .int .i64 c]] w fun e w' => e = .returned (.agg #[.int .i64 8, .string (keyAt x), .string ⟨#[]⟩]) ∧ Below w.heap.size w w' := by
 obtain ⟨h, h'⟩ := h
 have n5 : ((k : Int) == 5) = false := beq_eq_false_iff_ne.2 (by omega)
 have n6 : ((k : Int) == 6) = false := beq_eq_false_iff_ne.2 (by omega)
 have hns := numAt_size y
 go_enter Tryz.func11, Tryz.ntmps11
 go_wp2_with fail
 refine (picked_any a 4 _ ha1 ha2 (by omega) (by omega)).mono ?_
 rw [Hx.out]
 rintro e w1 ⟨rfl, rfl⟩
 go_wp2_with fail
 rw [key_get]
 refine (picked_any b 12 _ hb1 hb2 (by omega) (by omega)).mono ?_
 rw [Hy.out]
 rintro e w2 ⟨rfl, rfl⟩
 go_wp2_with fail
 refine (itoa_any y _ hy12).mono ?_
 rintro e w3 ⟨rfl, rfl⟩
 go_wp2_with fail
 rw [show (⟨#[118]⟩ : ByteArray) ++ numAt y = valAt y from rfl]
 have hvs := valAt_size y
 clear hns
 refine (picked_any kd 24 _ hk1 hk2 (by omega) (by omega)).mono ?_
 rw [Hk.out]
 rintro e w4 ⟨rfl, rfl⟩
 go_wp2
 refine bodyPost_ret (v := .agg #[.int .i64 8, .string (keyAt x), .string ⟨#[]⟩]) (by simp [results, Tryz.results11, go_sem]) rfl ⟨rfl, ?_⟩
 repeat' (first | exact Below.refl _ _ | assumption | with_reducible refine below_drewN ?_ _ | with_reducible refine Below.drew ?_ | with_reducible refine Below.setCell ?_ ?_ _ | with_reducible refine Below.alloc ?_ ?_ _ | (simp; done) | (simp; omega))
set_option maxHeartbeats 1000000 in
theorem stmt_9 (kd a b c : Int) (k x y z3 z4 : Nat) (w : World) (hk1 : -9223372036854775808 ≤ kd) (hk2 : kd ≤ 9223372036854775807) (ha1 : -9223372036854775808 ≤ a) (ha2 : a ≤ 9223372036854775807) (hb1 : -9223372036854775808 ≤ b) (hb2 : b ≤ 9223372036854775807) (hc1 : -9223372036854775808 ≤ c) (hc2 : c ≤ 9223372036854775807)
  (Hk : Hid (pickI kd 24 = (k : Int))) (Hx : Hid (pickI a 4 = (x : Int))) (Hy : Hid (pickI b 12 = (y : Int))) (H3 : Hid (pickI c 3 = (z3 : Int))) (H4 : Hid (pickI c 4 = (z4 : Int))) (hk24 : k < 24) (hx4 : x < 4) (hy12 : y < 12) (hz3 : z3 < 3) (hz4 : z4 < 4) (h : ¬ k < 15 ∧ k < 18) :
  Calls Tryz.prog 11 #[.agg #[.int .i64 kd, .int .i64 a, .int .i64 b, .int .i64 c]] w fun e w' => e = .returned (.agg #[.int .i64 9, .string (keyAt x), .string (valAt y)]) ∧ Below w.heap.size w w' := by
 obtain ⟨h, h'⟩ := h
 have n5 : ((k : Int) == 5) = false := beq_eq_false_iff_ne.2 (by omega)
 have n6 : ((k : Int) == 6) = false := beq_eq_false_iff_ne.2 (by omega)
 have hns := numAt_size y
 go_enter Tryz.func11, Tryz.ntmps11
 go_wp2_with fail
 refine (picked_any a 4 _ ha1 ha2 (by omega) (by omega)).mono ?_
 rw [Hx.out]
 rintro e w1 ⟨rfl, rfl⟩
 go_wp2_with fail
 rw [key_get]
 refine (picked_any b 12 _ hb1 hb2 (by omega) (by omega)).mono ?_
 rw [Hy.out]
 rintro e w2 ⟨rfl, rfl⟩
 go_wp2_with fail
 refine (itoa_any y _ hy12).mono ?_
 rintro e w3 ⟨rfl, rfl⟩
 go_wp2_with fail
 rw [show (⟨#[118]⟩ : ByteArray) ++ numAt y = valAt y from rfl]
 have hvs := valAt_size y
 clear hns
 refine (picked_any kd 24 _ hk1 hk2 (by omega) (by omega)).mono ?_
 rw [Hk.out]
 rintro e w4 ⟨rfl, rfl⟩
 go_wp2
 refine bodyPost_ret (v := .agg #[.int .i64 9, .string (keyAt x), .string (valAt y)]) (by simp [results, Tryz.results11, go_sem]) rfl ⟨rfl, ?_⟩
 repeat' (first | exact Below.refl _ _ | assumption | with_reducible refine below_drewN ?_ _ | with_reducible refine Below.drew ?_ | with_reducible refine Below.setCell ?_ ?_ _ | with_reducible refine Below.alloc ?_ ?_ _ | (simp; done) | (simp; omega))
set_option maxHeartbeats 1000000 in
theorem stmt_10 (kd a b c : Int) (k x y z3 z4 : Nat) (w : World) (hk1 : -9223372036854775808 ≤ kd) (hk2 : kd ≤ 9223372036854775807) (ha1 : -9223372036854775808 ≤ a) (ha2 : a ≤ 9223372036854775807) (hb1 : -9223372036854775808 ≤ b) (hb2 : b ≤ 9223372036854775807) (hc1 : -9223372036854775808 ≤ c) (hc2 : c ≤ 9223372036854775807)
  (Hk : Hid (pickI kd 24 = (k : Int))) (Hx : Hid (pickI a 4 = (x : Int))) (Hy : Hid (pickI b 12 = (y : Int))) (H3 : Hid (pickI c 3 = (z3 : Int))) (H4 : Hid (pickI c 4 = (z4 : Int))) (hk24 : k < 24) (hx4 : x < 4) (hy12 : y < 12) (hz3 : z3 < 3) (hz4 : z4 < 4) (h : ¬ k < 18 ∧ k < 22) :
  Calls Tryz.prog 11 #[.agg #[.int .i64 kd, .int .i64 a, .int .i64 b, .int .i64 c]] w fun e w' => e = .returned (.agg #[.int .i64 10, .string (keyAt x), .string (valAt y)]) ∧ Below w.heap.size w w' := by
 obtain ⟨h, h'⟩ := h
 have n5 : ((k : Int) == 5) = false := beq_eq_false_iff_ne.2 (by omega)
 have n6 : ((k : Int) == 6) = false := beq_eq_false_iff_ne.2 (by omega)
 have hns := numAt_size y
 go_enter Tryz.func11, Tryz.ntmps11
 go_wp2_with fail
 refine (picked_any a 4 _ ha1 ha2 (by omega) (by omega)).mono ?_
 rw [Hx.out]
 rintro e w1 ⟨rfl, rfl⟩
 go_wp2_with fail
 rw [key_get]
 refine (picked_any b 12 _ hb1 hb2 (by omega) (by omega)).mono ?_
 rw [Hy.out]
 rintro e w2 ⟨rfl, rfl⟩
 go_wp2_with fail
 refine (itoa_any y _ hy12).mono ?_
 rintro e w3 ⟨rfl, rfl⟩
 go_wp2_with fail
 rw [show (⟨#[118]⟩ : ByteArray) ++ numAt y = valAt y from rfl]
 have hvs := valAt_size y
 clear hns
 refine (picked_any kd 24 _ hk1 hk2 (by omega) (by omega)).mono ?_
 rw [Hk.out]
 rintro e w4 ⟨rfl, rfl⟩
 go_wp2
 refine bodyPost_ret (v := .agg #[.int .i64 10, .string (keyAt x), .string (valAt y)]) (by simp [results, Tryz.results11, go_sem]) rfl ⟨rfl, ?_⟩
 repeat' (first | exact Below.refl _ _ | assumption | with_reducible refine below_drewN ?_ _ | with_reducible refine Below.drew ?_ | with_reducible refine Below.setCell ?_ ?_ _ | with_reducible refine Below.alloc ?_ ?_ _ | (simp; done) | (simp; omega))
set_option maxHeartbeats 1000000 in
theorem stmt_11 (kd a b c : Int) (k x y z3 z4 : Nat) (w : World) (hk1 : -9223372036854775808 ≤ kd) (hk2 : kd ≤ 9223372036854775807) (ha1 : -9223372036854775808 ≤ a) (ha2 : a ≤ 9223372036854775807) (hb1 : -9223372036854775808 ≤ b) (hb2 : b ≤ 9223372036854775807) (hc1 : -9223372036854775808 ≤ c) (hc2 : c ≤ 9223372036854775807)
  (Hk : Hid (pickI kd 24 = (k : Int))) (Hx : Hid (pickI a 4 = (x : Int))) (Hy : Hid (pickI b 12 = (y : Int))) (H3 : Hid (pickI c 3 = (z3 : Int))) (H4 : Hid (pickI c 4 = (z4 : Int))) (hk24 : k < 24) (hx4 : x < 4) (hy12 : y < 12) (hz3 : z3 < 3) (hz4 : z4 < 4) (h : ¬ k < 22) :
  Calls Tryz.prog 11 #[.agg #[.int .i64 kd, .int .i64 a, .int .i64 b, .int .i64 c]] w fun e w' => e = .returned (.agg #[.int .i64 11, .string (keyAt x), .string (prepAt z4 y)]) ∧ Below w.heap.size w w' := by
 have n5 : ((k : Int) == 5) = false := beq_eq_false_iff_ne.2 (by omega)
 have n6 : ((k : Int) == 6) = false := beq_eq_false_iff_ne.2 (by omega)
 have hg := prep_get y z4
 have hns := numAt_size y
 go_enter Tryz.func11, Tryz.ntmps11
 go_wp2_with fail
 refine (picked_any a 4 _ ha1 ha2 (by omega) (by omega)).mono ?_
 rw [Hx.out]
 rintro e w1 ⟨rfl, rfl⟩
 go_wp2_with fail
 rw [key_get]
 refine (picked_any b 12 _ hb1 hb2 (by omega) (by omega)).mono ?_
 rw [Hy.out]
 rintro e w2 ⟨rfl, rfl⟩
 go_wp2_with fail
 refine (itoa_any y _ hy12).mono ?_
 rintro e w3 ⟨rfl, rfl⟩
 go_wp2_with fail
 rw [show (⟨#[118]⟩ : ByteArray) ++ numAt y = valAt y from rfl]
 have hvs := valAt_size y
 clear hns
 refine (picked_any kd 24 _ hk1 hk2 (by omega) (by omega)).mono ?_
 rw [Hk.out]
 rintro e w4 ⟨rfl, rfl⟩
 go_wp2_with fail
 refine (picked_any c 4 _ hc1 hc2 (by omega) (by omega)).mono ?_
 rw [H4.out]
 rintro e w5 ⟨rfl, rfl⟩
 go_wp2
 refine bodyPost_ret (v := .agg #[.int .i64 11, .string (keyAt x), .string (prepAt z4 y)]) (by simp [results, Tryz.results11, go_sem]) rfl ⟨rfl, ?_⟩
 repeat' (first | exact Below.refl _ _ | assumption | with_reducible refine below_drewN ?_ _ | with_reducible refine Below.drew ?_ | with_reducible refine Below.setCell ?_ ?_ _ | with_reducible refine Below.alloc ?_ ?_ _ | (simp; done) | (simp; omega))
theorem stmt_any (kd a b c : Int) (w : World) (hk : (Lit.int .i64 kd).wf = true) (ha : (Lit.int .i64 a).wf = true) (hb : (Lit.int .i64 b).wf = true) (hc : (Lit.int .i64 c).wf = true) :
  Calls Tryz.prog 11 #[.agg #[.int .i64 kd, .int .i64 a, .int .i64 b, .int .i64 c]] w fun e w' =>
   e = .returned (.agg #[.int .i64 (rawK (pickI kd 24).toNat (pickI c 3).toNat), .string (rawKey (pickI kd 24).toNat (pickI a 4).toNat), .string (rawVal (pickI kd 24).toNat (pickI b 12).toNat (pickI c 4).toNat)]) ∧ Below w.heap.size w w' := by
 obtain ⟨hk1, hk2⟩ := i64_bd hk
 obtain ⟨ha1, ha2⟩ := i64_bd ha
 obtain ⟨hb1, hb2⟩ := i64_bd hb
 obtain ⟨hc1, hc2⟩ := i64_bd hc
 obtain ⟨k, Hk, hk24⟩ := pick_some kd 24 (by omega)
 obtain ⟨x, Hx, hx4⟩ := pick_some a 4 (by omega)
 obtain ⟨y, Hy, hy12⟩ := pick_some b 12 (by omega)
 obtain ⟨z3, H3, hz3⟩ := pick_some c 3 (by omega)
 obtain ⟨z4, H4, hz4⟩ := pick_some c 4 (by omega)
 rw [show pickI kd 24 = (k : Int) from Hk, show pickI a 4 = (x : Int) from Hx, show pickI b 12 = (y : Int) from Hy, show pickI c 3 = (z3 : Int) from H3, show pickI c 4 = (z4 : Int) from H4]
 simp only [Int.toNat_natCast]
 have hcase : k < 3 ∨ (¬ k < 3 ∧ k < 5) ∨ k = 5 ∨ k = 6 ∨ (6 < k ∧ k < 10) ∨ (¬ k < 10 ∧ k < 13) ∨ (¬ k < 13 ∧ k < 15) ∨ (¬ k < 15 ∧ k < 18) ∨ (¬ k < 18 ∧ k < 22) ∨ ¬ k < 22 := by omega
 rcases hcase with h | h | h | h | h | h | h | h | h | h
 ·have e1 : rawK k z3 = 1 := by unfold rawK; rw [if_pos h]
  have e2 : rawKey k x = ⟨#[]⟩ := by unfold rawKey; rw [if_pos (by omega)]
  have e3 : rawVal k y z4 = ⟨#[]⟩ := by unfold rawVal; rw [if_pos (by omega)]
  rw [e1, e2, e3]
  exact stmt_1 kd a b c k x y z3 z4 w hk1 hk2 ha1 ha2 hb1 hb2 hc1 hc2 Hk Hx Hy H3 H4 hk24 hx4 hy12 hz3 hz4 h
 ·have e1 : rawK k z3 = 2 := by unfold rawK; rw [if_neg h.1, if_pos h.2]
  have e2 : rawKey k x = ⟨#[]⟩ := by unfold rawKey; rw [if_pos (by omega)]
  have e3 : rawVal k y z4 = ⟨#[]⟩ := by unfold rawVal; rw [if_pos (by omega)]
  rw [e1, e2, e3]
  exact stmt_2 kd a b c k x y z3 z4 w hk1 hk2 ha1 ha2 hb1 hb2 hc1 hc2 Hk Hx Hy H3 H4 hk24 hx4 hy12 hz3 hz4 h
 ·subst h
  exact stmt_3 kd a b c 5 x y z3 z4 w hk1 hk2 ha1 ha2 hb1 hb2 hc1 hc2 Hk Hx Hy H3 H4 hk24 hx4 hy12 hz3 hz4 rfl
 ·subst h
  exact stmt_4 kd a b c 6 x y z3 z4 w hk1 hk2 ha1 ha2 hb1 hb2 hc1 hc2 Hk Hx Hy H3 H4 hk24 hx4 hy12 hz3 hz4 rfl
 ·have e1 : rawK k z3 = 6 := by unfold rawK; rw [if_neg (by omega), if_neg (by omega), if_neg (by omega), if_neg (by omega), if_pos h.2]
  have e2 : rawKey k x = keyAt x := by unfold rawKey; rw [if_neg (by omega)]
  have e3 : rawVal k y z4 = ⟨#[]⟩ := by unfold rawVal; rw [if_pos (by omega)]
  rw [e1, e2, e3]
  exact stmt_6 kd a b c k x y z3 z4 w hk1 hk2 ha1 ha2 hb1 hb2 hc1 hc2 Hk Hx Hy H3 H4 hk24 hx4 hy12 hz3 hz4 h
 ·have e1 : rawK k z3 = 7 := by unfold rawK; rw [if_neg (by omega), if_neg (by omega), if_neg (by omega), if_neg (by omega), if_neg h.1, if_pos h.2]
  have e2 : rawKey k x = keyAt x := by unfold rawKey; rw [if_neg (by omega)]
  have e3 : rawVal k y z4 = ⟨#[]⟩ := by unfold rawVal; rw [if_pos (by omega)]
  rw [e1, e2, e3]
  exact stmt_7 kd a b c k x y z3 z4 w hk1 hk2 ha1 ha2 hb1 hb2 hc1 hc2 Hk Hx Hy H3 H4 hk24 hx4 hy12 hz3 hz4 h
 ·have e1 : rawK k z3 = 8 := by unfold rawK; rw [if_neg (by omega), if_neg (by omega), if_neg (by omega), if_neg (by omega), if_neg (by omega), if_neg h.1, if_pos h.2]
  have e2 : rawKey k x = keyAt x := by unfold rawKey; rw [if_neg (by omega)]
  have e3 : rawVal k y z4 = ⟨#[]⟩ := by unfold rawVal; rw [if_pos (by omega)]
  rw [e1, e2, e3]
  exact stmt_8 kd a b c k x y z3 z4 w hk1 hk2 ha1 ha2 hb1 hb2 hc1 hc2 Hk Hx Hy H3 H4 hk24 hx4 hy12 hz3 hz4 h
 ·have e1 : rawK k z3 = 9 := by unfold rawK; rw [if_neg (by omega), if_neg (by omega), if_neg (by omega), if_neg (by omega), if_neg (by omega), if_neg (by omega), if_neg h.1, if_pos h.2]
  have e2 : rawKey k x = keyAt x := by unfold rawKey; rw [if_neg (by omega)]
  have e3 : rawVal k y z4 = valAt y := by unfold rawVal; rw [if_neg (by omega), if_pos (by omega)]
  rw [e1, e2, e3]
  exact stmt_9 kd a b c k x y z3 z4 w hk1 hk2 ha1 ha2 hb1 hb2 hc1 hc2 Hk Hx Hy H3 H4 hk24 hx4 hy12 hz3 hz4 h
 ·have e1 : rawK k z3 = 10 := by unfold rawK; rw [if_neg (by omega), if_neg (by omega), if_neg (by omega), if_neg (by omega), if_neg (by omega), if_neg (by omega), if_neg (by omega), if_neg h.1, if_pos h.2]
  have e2 : rawKey k x = keyAt x := by unfold rawKey; rw [if_neg (by omega)]
  have e3 : rawVal k y z4 = valAt y := by unfold rawVal; rw [if_neg (by omega), if_pos (by omega)]
  rw [e1, e2, e3]
  exact stmt_10 kd a b c k x y z3 z4 w hk1 hk2 ha1 ha2 hb1 hb2 hc1 hc2 Hk Hx Hy H3 H4 hk24 hx4 hy12 hz3 hz4 h
 ·have e1 : rawK k z3 = 11 := by unfold rawK; rw [if_neg (by omega), if_neg (by omega), if_neg (by omega), if_neg (by omega), if_neg (by omega), if_neg (by omega), if_neg (by omega), if_neg (by omega), if_neg h]
  have e2 : rawKey k x = keyAt x := by unfold rawKey; rw [if_neg (by omega)]
  have e3 : rawVal k y z4 = prepAt z4 y := by unfold rawVal; rw [if_neg (by omega), if_neg h]
  rw [e1, e2, e3]
  exact stmt_11 kd a b c k x y z3 z4 w hk1 hk2 ha1 ha2 hb1 hb2 hc1 hc2 Hk Hx Hy H3 H4 hk24 hx4 hy12 hz3 hz4 h
end Go.Proofs.YtpbaobmegomfpabGreatDoor
