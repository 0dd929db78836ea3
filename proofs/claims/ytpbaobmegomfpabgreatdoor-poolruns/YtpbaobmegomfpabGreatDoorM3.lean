/-
  Texts of the proof, one behind the other: BPlace, RefPlus, BIns.
-/
import Derived.Test.YtpbaobmegomfpabGreatDoorM2
import Derived.Test.YtpbaobmegomfpabGreatDoorRows
import Derived.Deep.QuietTactic
import Derived.BigQuiet
import Derived.IntWalk
import Derived.WalkSmall
import Derived.Maps.AppendAt
import Derived.OwnWalk
import Derived.Shelf.Spec.SlicesInsert
import Derived.Lib.AppendZerosOnto
set_option linter.unusedVariables false
set_option linter.unusedSimpArgs false
set_option maxRecDepth 100000
open List renaming getElem_toArray → gTA, getElem_cons_zero → gCZ, getElem_cons_succ → gCS, setIfInBounds_toArray → sTA, set_cons_zero → sCZ, set_cons_succ → sCS
open Go.Lib renaming hid → jD
open Nat renaming le_refl → nL
namespace Go.Proofs.YtpbaobmegomfpabGreatDoor
open Go.RowKit
theorem geq_str (a b : ByteArray) : binOp .geq 9 (.string a) (.string b) = pure (.bool (!ltB a b)) := by simp [binOp, Op.stringOp, ltB]
set_option maxHeartbeats 400000 in
theorem place1_any (v : Value) (l : PL) (key : ByteArray) (k : Nat) (p q : Addr) (w : World) (B : Nat) (hl : Lst w B v l) (hk : k < l.length) (hp : w.cell? p = some v) (hq : w.cell? q = some (.string key)) :
  Calls Tryz.prog 116 #[.int .i64 k, .pointer (some p), .pointer (some q)] w fun e w' => e = .returned (.bool (!ltB l[k].1 key)) ∧ ∃ n, w' = w.drewN n := by
 obtain ⟨A, c, rfl, hc⟩ := hl.form
 obtain ⟨b, off, rfl, hb, c0, c1⟩ := hl.pt hk
 have hge := geq_str l[k].1 key
 have hkl : (k : Int) < (l.length : Int) := by omega
 clear hl
 go_enter Tryz.func116, Tryz.ntmps116
 go_wp2
 go_quiet (fail)
 go_wp2
 go_ret
 exact ⟨rfl, nq, rfl⟩
set_option maxHeartbeats 1000000 in
theorem search_any (v : Value) (l : PL) (key : ByteArray) (p q : Addr) (w : World) (B : Nat) (hl : Lst w B v l) (hr : risingB l = true) (hp : w.cell? p = some v) (hq : w.cell? q = some (.string key)) :
  Calls Tryz.prog 115 #[.int .i64 l.length, .func (.func 116) #[] #[.pointer (some p), .pointer (some q)]] w fun e w' => e = .returned (.int .i64 (posL l key)) ∧ ∃ n, w' = w.drewN n := by
 have hby := hl.bytes
 have hpl := posL_le l key
 have HL := jD hl
 have HR := jD hr
 have HP := jD hp
 have HQ := jD hq
 clear hl hr hp hq
 go_enter Tryz.func115, Tryz.ntmps115
 go_wp2
 go_loopw [5, 6] (fun i j wr => ∃ a b : Nat, i = .int .i64 a ∧ j = .int .i64 b ∧ a ≤ posL l key ∧ posL l key ≤ b ∧ b ≤ l.length ∧ ∃ n, wr = w.drewN n) (fun i j _ => (intOf j).toNat - (intOf i).toNat)
 case atStart => exact ⟨0, l.length, rfl, rfl, by omega, hpl, nL _, 0, rfl⟩
 case round =>
  obtain ⟨a, b, rfl, rfl, h1, h2, h3, n, rfl⟩ := hrel
  by_cases hlt : a < b
  ·go_wp2_with fail
   rw [show ((a : Int) + (b : Int)) / 2 = (((a + b) / 2 : Nat) : Int) from by omega]
   have m1 : a ≤ (a + b) / 2 := by omega
   have m2 : (a + b) / 2 < b := by omega
   generalize (a + b) / 2 = m at *
   refine (place1_any v l key m p q _ B (HL.out.drewN n) (by omega) HP.out HQ.out).mono ?_
   by_cases hm : m < posL l key
   ·rw [pos_before (l := l) (k := key) (by omega) hm]
    rintro e w2 ⟨rfl, n2, rfl⟩
    go_wp2
    go_roundw
    case rel => exact ⟨m + 1, b, by go_num, rfl, by omega, h2, h3, n + n2, rfl⟩
    case measure => simp [intOf]; omega
   ·rw [pos_after (l := l) (k := key) HR.out (by omega) (by omega)]
    rintro e w2 ⟨rfl, n2, rfl⟩
    go_wp2
    go_roundw
    case rel => exact ⟨a, m, rfl, rfl, h1, by omega, by omega, n + n2, rfl⟩
    case measure => simp [intOf]; omega
  ·obtain rfl : a = posL l key := by omega
   go_wp2
   go_ret
   exact ⟨rfl, n, rfl⟩
set_option maxHeartbeats 1000000 in
theorem place_any (v : Value) (l : PL) (key : ByteArray) (w : World) (hl : Lst w w.heap.size v l) (hr : risingB l = true) :
  Calls Tryz.prog 95 #[v, .string key] w fun e w' => e = .returned (.tuple #[.int .i64 (posL l key), .bool (fndL l key)]) ∧ Below w.heap.size w w' := by
 obtain ⟨A, c, rfl, hc⟩ := hl.form
 have hby := hl.bytes
 have hpl := posL_le l key
 have HL := jD hl
 have HR := jD hr
 clear hl hr
 have b0 : Below w.heap.size w ((w.alloc (.cells #[.slice A l.length c] 27)).alloc (.cells #[.string key] 9)) := ((Below.refl _ _).alloc (nL _) _).alloc (by simp) _
 by_cases hlt : posL l key < l.length
 ·obtain ⟨hf, _⟩ := fnd_at HR.out hlt
  obtain ⟨b, off, rfl, hb, c0, c1⟩ := HL.out.pt hlt
  have g1 : decide ((posL l key : Int) < (l.length : Int)) = true := decide_eq_true (by omega)
  have g2 : decide (posL l key < l.length) = true := decide_eq_true hlt
  have hlt2 : (posL l key : Int) < (l.length : Int) := by omega
  cases he : eqB (l[posL l key]).1 key
  all_goals
   rw [he] at hf
   have HF := jD hf
   unfold eqB at he
   clear hf
   go_enter Tryz.func95, Tryz.ntmps95
   go_wp2_with fail
   refine (search_any _ l key _ _ _ _ (HL.out.step b0) HR.out (by simp [go_sem]) (by simp [go_sem])).mono ?_
   rintro e w1 ⟨rfl, n, rfl⟩
   generalize hm : posL l key = m at *
   have HM := jD hm
   clear hm
   go_wp2
   go_quiet (fail)
   go_wp2
   go_ret2
   exact ⟨by rw [HF.out, HM.out]; rfl, below_drewN (below_drewN b0 _) _⟩
 ·have HF := jD (fnd_none (k := key) HR.out (by omega))
  have g1 : decide ((posL l key : Int) < (l.length : Int)) = false := decide_eq_false (by omega)
  have g2 : decide (posL l key < l.length) = false := decide_eq_false hlt
  go_enter Tryz.func95, Tryz.ntmps95
  go_wp2_with fail
  refine (search_any _ l key _ _ _ _ (HL.out.step b0) HR.out (by simp [go_sem]) (by simp [go_sem])).mono ?_
  rintro e w1 ⟨rfl, n, rfl⟩
  generalize hm : posL l key = m at *
  have HM := jD hm
  clear hm
  go_wp2
  go_quiet (fail)
  go_wp2
  go_ret2
  exact ⟨by rw [HF.out, HM.out]; rfl, below_drewN (below_drewN b0 _) _⟩
theorem pair_row : (Tryz.prog.info? 60).map (fun i => (i.zero, i.size, i.bytes)) = some (some (.agg #[.string ⟨#[]⟩, .string ⟨#[]⟩]), 2, 32) := by kernel_rfl
theorem pair_one (a b : ByteArray) : ∀ u ∈ ([.string a, .string b] : List Value), u.oneCell' = true := by
 intro u hu
 simp only [List.mem_cons, List.not_mem_nil, or_false] at hu
 rcases hu with rfl | rfl <;> rfl
section
variable {l out : PL} {key val : ByteArray} {k : Nat} {p : ByteArray × ByteArray} {r : PL}
end
end Go.Proofs.YtpbaobmegomfpabGreatDoor
namespace Go.Proofs.YtpbaobmegomfpabGreatDoor
open Go.RowKit Go.Lib
theorem copy_pairs (w : World) (ty : TypeId) (g o dLen dCap : Nat) (a : Addr) (sLen sCap : Nat) (cur : Array Value) (t : TypeId) (cs : List Value)
  (hg : w.heap[g]? = some (.cells cur t (0, 0))) (hn : cs.length = Nat.min sLen dLen * 2)
  (hsrc : ∀ j v, cs[j]? = some v → w.cell? (a.add j) = some v) (hfit : o + cs.length ≤ cur.size) (h1 : ∀ v ∈ cs, v.oneCell' = true) :
  (Builtin.copy_ #[27, 27] ty #[.slice (some ⟨g, o, none⟩) dLen dCap, .slice (some a) sLen sCap]).run Tryz.prog w =
   .ok (goInt (Nat.min sLen dLen)) (w.setRow g (cur.toList.take o ++ cs ++ cur.toList.drop (o + cs.length)).toArray) := by
 obtain ⟨i0, hi, hz0, hz1, hz2⟩ := info_parts pair_row
 have hl := run_loadCells_list (P := Tryz.prog) w a cs hsrc
 have hst := run_storeCells_at Tryz.prog g o t cs 0 cur w hg (by simpa using hfit) h1
 have e : Nat.min sLen dLen * 2 = cs.length := hn.symm
 simp [Builtin.copy_, run_underlying Tryz.underlying27, Builtin.lenOf, Builtin.firstCells, sizeOf, typeInfo, hi, hz1, e, hl, hst]
theorem setRow_size (w : World) (g : Nat) (cs : Array Value) : (w.setRow g cs).heap.size = w.heap.size := by simp [World.setRow]
theorem setRow_other (w : World) (g : Nat) (cs : Array Value) (k : Nat) (h : k ≠ g) : (w.setRow g cs).heap[k]? = w.heap[k]? := by
 simp only [World.setRow, Array.getElem?_modify]
 rw [if_neg (fun e => h e.symm)]
theorem setRow_grown (w : World) (g : Nat) (cs : Array Value) : w.grownBy (w.setRow g cs) (some g) :=
 ⟨rfl, rfl, rfl, by rw [setRow_size]; exact nL _, fun k hk hne => setRow_other w g cs k (fun e => hne (by rw [e]))⟩
structure OwnL (w : World) (g cap : Nat) (l : PL) : Prop where
 row : RowTo w g 60 (cap * 2) (flat l)
 len : l.length ≤ cap
 most : cap ≤ 9223372036854775807
theorem OwnL.own {w : World} {g cap : Nat} {l : PL} (h : OwnL w g cap l) : w.ownsRow 0 60 2 (.slice (some ⟨g, 0, none⟩) l.length cap) l.length (flat l) := by
 obtain ⟨cur, hh, hs, hx⟩ := h.row
 exact ⟨flat_length l, .inr ⟨g, cap, cur, rfl, Nat.zero_le _, hh, h.len, by have := h.most; unfold maxLen; omega, hs, by rw [flat_length] at hx; exact hx⟩⟩
def InsPost (w : World) (g : Nat) (l' : PL) (e : Ending) (w' : World) : Prop :=
 ∃ g' cap', e = .returned (.slice (some ⟨g', 0, none⟩) l'.length cap') ∧ OwnL w' g' cap' l' ∧ (g' = g ∨ w.heap.size ≤ g') ∧ w.grownBy w' (some g)
theorem own_ins {w w1 : World} {g c : Nat} {n : Nat} {v1 : Value} {l : PL} {key val : ByteArray} (ho1 : w1.ownsRow 0 60 2 v1 (l.length + 1) (flat l ++ [.string key, .string val])) (hg1 : w.grownBy w1 (Value.slice (some ⟨g, 0, none⟩) n c).ownBlock)
  (hl : v1.ownBlock = (Value.slice (some ⟨g, 0, none⟩) n c).ownBlock ∨ v1.ownBlock = some w.heap.size) : InsPost w g (l ++ [(key, val)]) (.returned v1) w1 := by
 obtain ⟨_, ⟨_, h0⟩ | ⟨g', cap', cur, hv, _, hh, hc, hm, hz, hx⟩⟩ := ho1
 ·omega
 subst hv
 have e1 : (l ++ [(key, val)]).length = l.length + 1 := by simp
 have e2 : flat (l ++ [(key, val)]) = flat l ++ [.string key, .string val] := flat_append l [(key, val)]
 refine ⟨g', cap', by rw [e1], ⟨⟨cur, hh, hz, ?_⟩, by rw [e1]; exact hc, hm⟩, ?_, hg1⟩
 ·rw [flat_length, e1, e2]; exact hx
 ·rcases hl with h | h
  ·left; injection h
  ·right; injection h with h; exact Nat.le_of_eq h.symm
set_option maxHeartbeats 2000000 in
theorem insert_end (g c vb : Nat) (l : PL) (key val : ByteArray) (w : World) (ho : OwnL w g c l) (hn : l.length ≤ 1000) (hv : RowTo w vb 60 2 [.string key, .string val]) :
  Calls Tryz.prog 114 #[.slice (some ⟨g, 0, none⟩) l.length c, .int .i64 l.length, .slice (some ⟨vb, 0, none⟩) 1 1] w (InsPost w g (l ++ [(key, val)])) := by
 obtain ⟨i0, hi, hz0, hz1, hz2⟩ := info_parts pair_row
 have HI := jD (And.intro hi (And.intro hz0 (And.intro hz1 hz2)))
 clear hi hz0 hz1 hz2
 have hlc := ho.len
 have hcm := ho.most
 have HO := jD ho.own
 have HF := jD (fun (j : Nat) (u : Value) (h : ([.string key, .string val] : List Value)[j]? = some u) => (show w.cell? ((⟨vb, 0, none⟩ : Addr).add j) = some u from by
  rw [Addr.add_lit, Nat.zero_add]
  have hj : j < ([.string key, .string val] : List Value).length := (List.getElem?_eq_some_iff.1 h).1
  rw [hv.cell hj, ← h, List.getElem?_eq_getElem hj]))
 have HG := jD ho.row.lt
 clear ho hv
 go_enter Tryz.func114, Tryz.ntmps114
 go_wp2_with (at_builtin; refine wpList_append_own_at _ rfl _ _ 27 rfl 0 60 i0 _ 2 32 Tryz.underlying27 HI.out.1 HI.out.2.1 HI.out.2.2.1 HI.out.2.2.2 rfl (by decide) (.slice (some ⟨g, 0, none⟩) l.length c) _ _ rfl HO.out ⟨vb, 0, none⟩ 1 1 [.string key, .string val] rfl rfl HF.out (pair_one _ _) (by unfold maxLen; omega) (by omega) (Nat.zero_le _) ?_; intro v1 w1 ho1 hg1 hnil1 hloc1)
 all_goals
  go_ret
  exact own_ins ho1 hg1 hloc1
theorem rows_shift {cur fl vs R1 R2 : List Value} {i n : Nat} (hfl : fl.length = n * 2) (hi : i ≤ n) (hcur : cur.take (n * 2) = fl) (hlen : n * 2 + 2 ≤ cur.length) (hvs : vs.length = 2)
  (h1 : R1 = cur.take ((i + 1) * 2) ++ fl.drop (i * 2) ++ cur.drop ((i + 1) * 2 + (fl.drop (i * 2)).length)) (h2 : R2 = R1.take (i * 2) ++ vs ++ R1.drop (i * 2 + vs.length)) :
  R1.length = cur.length ∧ R2.length = cur.length ∧ R2.take ((n + 1) * 2) = fl.take (i * 2) ++ vs ++ fl.drop (i * 2) := by
 have la : (cur.take ((i + 1) * 2)).length = (i + 1) * 2 := by rw [List.length_take]; omega
 have ld : (fl.drop (i * 2)).length = n * 2 - i * 2 := by rw [List.length_drop, hfl]
 have e1 : R1.take (i * 2) = fl.take (i * 2) := by
  rw [h1, List.append_assoc, List.take_append_of_le_length (by rw [la]; omega), List.take_take, ← hcur, List.take_take]
  congr 1; omega
 have e2 : R1.drop (i * 2 + vs.length) = fl.drop (i * 2) ++ cur.drop ((i + 1) * 2 + (fl.drop (i * 2)).length) := by
  rw [h1, hvs, List.append_assoc, List.drop_append, la, List.drop_of_length_le (by rw [la]; omega), List.nil_append, show i * 2 + 2 - (i + 1) * 2 = 0 by omega, List.drop_zero]
 have l1 : R1.length = cur.length := by
  rw [h1]; simp only [List.length_append, la, ld, List.length_drop]; omega
 refine ⟨l1, ?_, ?_⟩
 ·rw [h2]; simp only [List.length_append, List.length_take, List.length_drop, l1, hvs]; omega
 ·rw [h2, e1, e2, ← List.append_assoc, List.take_append_of_le_length (by simp only [List.length_append, List.length_take, ld, hvs, hfl]; omega), List.take_of_length_le (by simp only [List.length_append, List.length_take, ld, hvs, hfl]; omega)]
theorem own_mid {w : World} {g cap i : Nat} {l : PL} {p : ByteArray × ByteArray} {arr : Array Value} (hh : w.heap[g]? = some (.cells arr 60 (0, 0))) (hs : arr.size = cap * 2) (hc : l.length + 1 ≤ cap) (hm : cap ≤ 9223372036854775807) (hi : i ≤ l.length)
  (ht : arr.toList.take ((l.length + 1) * 2) = (flat l).take (i * 2) ++ [.string p.1, .string p.2] ++ (flat l).drop (i * 2)) : OwnL w g cap (l.take i ++ p :: l.drop i) := by
 have e1 : (l.take i ++ p :: l.drop i).length = l.length + 1 := by simp; omega
 have e2 : flat (l.take i ++ p :: l.drop i) = (flat l).take (i * 2) ++ [.string p.1, .string p.2] ++ (flat l).drop (i * 2) := by
  rw [flat_append, flat_cons, flat_take]
  have : flat (l.drop i) = (flat l).drop (i * 2) := by
   have h1 : flat l = (flat l).take (i * 2) ++ flat (l.drop i) := by rw [← flat_take, ← flat_append, List.take_append_drop]
   have h2 : ((flat l).take (i * 2)).length = i * 2 := by rw [List.length_take, flat_length]; omega
   rw [h1, List.drop_append, h2, List.drop_take]
   simp
  rw [this]; simp
 exact ⟨⟨arr, hh, hs, by rw [flat_length, e1, e2]; exact ht⟩, by rw [e1]; exact hc, hm⟩
set_option maxHeartbeats 4000000 in
theorem insert_room (g c vb i : Nat) (l : PL) (key val : ByteArray) (w : World) (ho : OwnL w g c l) (hn : l.length ≤ 1000) (hi : i < l.length) (hroom : l.length + 1 ≤ c) (hne : vb ≠ g) (hv : RowTo w vb 60 2 [.string key, .string val]) :
  Calls Tryz.prog 114 #[.slice (some ⟨g, 0, none⟩) l.length c, .int .i64 i, .slice (some ⟨vb, 0, none⟩) 1 1] w (InsPost w g (l.take i ++ (key, val) :: l.drop i)) := by
 obtain ⟨cur, hh, hs, hx⟩ := ho.row
 have hcm := ho.most
 obtain ⟨vcur, hvh, hvs, hvx⟩ := hv
 have hz2 : ((i : Int) == (l.length : Int)) = false := beq_eq_false_iff_ne.2 (by omega)
 have hov : ∀ lb cb, (callFunc 133 #[.slice (some ⟨vb, 0, none⟩) 1 1, .slice (some ⟨g, (i + 1) * 2, none⟩) lb cb]).run Tryz.prog w = .ok (.value (.bool false)) w := fun lb cb => by
  rw [run_callFunc_extern Tryz.func133 (by kernel_rfl) (by kernel_rfl) (by kernel_rfl) (e := Extern.SlicesOverlaps.overlaps #[27, 27] #[4]) (by kernel_rfl),
   Lib.run_overlaps_apart w 27 4 60 Tryz.underlying27 2 (fun _ => by kernel_rfl) ⟨vb, 0, none⟩ ⟨g, (i + 1) * 2, none⟩ 1 1 lb cb hne 60 60 2 (c * 2) (by simp [World.shape?, hvh, hvs]) (by simp [World.shape?, hh, hs]) (by omega) (by simp [World.frozen?, hvh]) (by simp [World.frozen?, hvh])]
  rfl
 go_enter Tryz.func114, Tryz.ntmps114
 have hxl : cur.toList.take (l.length * 2) = flat l := by rw [flat_length] at hx; exact hx
 have hvx' : vcur.toList = [.string key, .string val] := by
  have := hvx
  rwa [List.take_of_length_le (by simp [hvs])] at this
 have hcl : cur.toList.length = c * 2 := by simpa using hs
 obtain ⟨R1, hR1⟩ : ∃ R1, R1 = cur.toList.take ((i + 1) * 2) ++ (flat l).drop (i * 2) ++ cur.toList.drop ((i + 1) * 2 + ((flat l).drop (i * 2)).length) := ⟨_, rfl⟩
 obtain ⟨R2, hR2⟩ : ∃ R2, R2 = R1.take (i * 2) ++ [.string key, .string val] ++ R1.drop (i * 2 + ([.string key, .string val] : List Value).length) := ⟨_, rfl⟩
 have HR := jD (rows_shift (flat_length l) (Nat.le_of_lt hi) hxl (by rw [hcl]; omega) rfl hR1 hR2)
 have hfd : ((flat l).drop (i * 2)).length = (l.length - i) * 2 := by rw [List.length_drop, flat_length]; omega
 have hcp1 : ∀ ty dc sc, (Builtin.copy_ #[27, 27] ty #[.slice (some ⟨g, (i + 1) * 2, none⟩) (l.length + 1 - (i + 1)) dc, .slice (some ⟨g, i * 2, none⟩) (l.length + 1 - i) sc]).run Tryz.prog w.drew = .ok (goInt (Nat.min (l.length + 1 - i) (l.length + 1 - (i + 1)))) (w.drew.setRow g R1.toArray) := fun ty dc sc => by
  rw [hR1]
  refine copy_pairs w.drew ty g ((i + 1) * 2) _ dc ⟨g, i * 2, none⟩ _ sc cur _ ((flat l).drop (i * 2)) hh (by rw [hfd, show Nat.min (l.length + 1 - i) (l.length + 1 - (i + 1)) = l.length + 1 - (i + 1) from Nat.min_eq_right (by omega)]; omega) (fun j v hj => ?_) (by rw [hfd]; have := hs; omega) (fun v hv => flat_one l v (List.mem_of_mem_drop hv))
  rw [Addr.add_lit]
  have hjj : i * 2 + j < (flat l).length := by rw [List.getElem?_drop] at hj; exact (List.getElem?_eq_some_iff.1 hj).1
  have h3 := ho.row.cell hjj
  rw [List.getElem?_drop, List.getElem?_eq_getElem hjj] at hj
  rw [← hj]
  exact h3
 have hcp2 : ∀ (W : World), (∀ x, W.cell? x = (w.setRow g R1.toArray).cell? x) → W.heap[g]? = (w.setRow g R1.toArray).heap[g]? → ∀ ty dc, (Builtin.copy_ #[27, 27] ty #[.slice (some ⟨g, i * 2, none⟩) (l.length + 1 - i) dc, .slice (some ⟨vb, 0, none⟩) 1 1]).run Tryz.prog W = .ok (goInt (Nat.min 1 (l.length + 1 - i))) (W.setRow g R2.toArray) := fun W hWc hWg ty dc => by
  have hW' : W.heap[g]? = some (.cells R1.toArray 60 (0, 0)) := hWg.trans (setRow_heap w g cur R1.toArray _ _ hh)
  have := copy_pairs W ty g (i * 2) (l.length + 1 - i) dc ⟨vb, 0, none⟩ 1 1 R1.toArray 60 [.string key, .string val] hW' (by rw [show Nat.min 1 (l.length + 1 - i) = 1 from Nat.min_eq_left (by omega)]; rfl) (fun j v hj => by
   rw [Addr.add_lit, Nat.zero_add, hWc]
   have h4 : (w.setRow g R1.toArray).cell? ⟨vb, j, none⟩ = w.cell? ⟨vb, j, none⟩ := World.cell?_of_block (setRow_other w g _ vb hne)
   rw [h4]
   unfold World.cell?
   simp only [hvh]
   show vcur[j]? = some v
   rw [← hj, ← hvx']
   simp) (by have := HR.out.1; simp only [List.size_toArray, List.length_cons, List.length_nil]; omega) (pair_one key val)
  rw [hR2]
  simpa using this
 have hw1 : IntKind.i64.wrap ((i : Int) + 1) = (i : Int) + 1 := IntWalk.i64_in _ (by omega)
 have hb1 : (0 : Int) ≤ (i : Int) + 1 := by omega
 have htn : ((i : Int) + 1).toNat = i + 1 := by omega
 have hb2 : ¬ (c = i + 1) := by omega
 have hb3 : (i : Int) + 1 ≤ (l.length : Int) + 1 := by omega
 have hb4 : ¬ (c = i) := by omega
 have hb5 : (i : Int) ≤ (l.length : Int) + 1 := by omega
 have hb6 : i ≤ l.length + 1 := by omega
 have hb7 : i + 1 ≤ l.length + 1 := by omega
 have mixed : Tryz.prog.follows Departure.mixedOrders = true := by kernel_rfl
 have HO := jD ho
 have HH := jD hh
 have HS := jD hs
 clear hR1 hR2 hx hxl hvx' hcl hfd hvx hvs hvh hh hs ho
 go_wp2_with (simp only [hov])
 go_region_law_o (refine step_copy_runI rfl _ _ 27 27 rfl (.slice (some ⟨g, (i + 1) * 2, none⟩) (l.length + 1 - (i + 1)) (c - (i + 1))) (.slice (some ⟨g, i * 2, none⟩) (l.length + 1 - i) (c - i)) (by simp [Act.eval, Act.put]) (by simp [Act.eval, Act.put]) (hcp1 _ _ _) ?_)
 have hc2 := hcp2 (w.drew.setRow g R1.toArray) (fun _ => rfl) rfl
 clear hcp1 hcp2 hov
 go_wp2
 go_ret
 have hfin : ((w.drew.setRow g R1.toArray).setRow g R2.toArray).heap[g]? = some (.cells R2.toArray 60 (0, 0)) := setRow_heap _ g R1.toArray _ _ _ (setRow_heap w.drew g cur R1.toArray _ _ HH.out)
 refine ⟨g, c, ?_, own_mid (p := (key, val)) hfin (by have := HR.out.2.1; have := HS.out; simp only [List.size_toArray]; simp at *; omega) hroom hcm (Nat.le_of_lt hi) (by simpa using HR.out.2.2), .inl rfl, ?_⟩
 ·have e1 : (l.take i ++ (key, val) :: l.drop i).length = l.length + 1 := by simp; omega
  rw [e1]; rfl
 ·have h1 := setRow_grown w.drew g R1.toArray
  have h2 := setRow_grown (w.drew.setRow g R1.toArray) g R2.toArray
  exact ⟨rfl, rfl, rfl, Nat.le_trans h1.size h2.size, fun k hk hne => (h2.block k (by rw [setRow_size]; exact hk) hne).trans (h1.block k hk hne)⟩
theorem rows_grow {R0 fl vs R1 R2 : List Value} {i n G : Nat} (hfl : fl.length = n * 2) (hi : i ≤ n) (h0 : R0.take (i * 2) = fl.take (i * 2)) (hlen : R0.length = G * 2) (hG : n + 1 ≤ G) (hvs : vs.length = 2)
  (h1 : R1 = R0.take (i * 2) ++ vs ++ R0.drop (i * 2 + vs.length)) (h2 : R2 = R1.take ((i + 1) * 2) ++ fl.drop (i * 2) ++ R1.drop ((i + 1) * 2 + (fl.drop (i * 2)).length)) :
  R1.length = G * 2 ∧ R2.length = G * 2 ∧ R2.take ((n + 1) * 2) = fl.take (i * 2) ++ vs ++ fl.drop (i * 2) := by
 have la : (fl.take (i * 2)).length = i * 2 := by rw [List.length_take]; omega
 have ld : (fl.drop (i * 2)).length = n * 2 - i * 2 := by rw [List.length_drop, hfl]
 have l1 : R1.length = G * 2 := by rw [h1, h0]; simp only [List.length_append, la, hvs, List.length_drop, hlen]; omega
 have e1 : R1.take ((i + 1) * 2) = fl.take (i * 2) ++ vs := by
  rw [h1, h0, List.take_append_of_le_length (by simp only [List.length_append, la, hvs]; omega), List.take_of_length_le (by simp only [List.length_append, la, hvs]; omega)]
 refine ⟨l1, ?_, ?_⟩
 ·rw [h2]; simp only [List.length_append, List.length_take, List.length_drop, l1, hfl]; omega
 ·rw [h2, e1, List.take_append_of_le_length (by simp only [List.length_append, la, ld, hvs]; omega), List.take_of_length_le (by simp only [List.length_append, la, ld, hvs]; omega)]
set_option maxHeartbeats 4000000 in
theorem insert_grow (g c vb i : Nat) (l : PL) (key val : ByteArray) (w : World) (ho : OwnL w g c l) (hn : l.length ≤ 1000) (hi : i < l.length) (hroom : c < l.length + 1) (hne : vb ≠ g) (hv : RowTo w vb 60 2 [.string key, .string val]) :
  Calls Tryz.prog 114 #[.slice (some ⟨g, 0, none⟩) l.length c, .int .i64 i, .slice (some ⟨vb, 0, none⟩) 1 1] w (InsPost w g (l.take i ++ (key, val) :: l.drop i)) := by
 obtain ⟨i0, hi0, hz0, hz1, hz2'⟩ := info_parts pair_row
 have hgw := ho.row.lt
 have hvw := hv.lt
 have hcm := ho.most
 have hlc := ho.len
 have hz2 : ((i : Int) == (l.length : Int)) = false := beq_eq_false_iff_ne.2 (by omega)
 have hft : ((flat l).take (i * 2)).length = i * 2 := by rw [List.length_take, flat_length]; omega
 have hfd : ((flat l).drop (i * 2)).length = (l.length - i) * 2 := by rw [List.length_drop, flat_length]; omega
 have hold : (Builtin.firstCells i0.size i (.slice (some ⟨g, 0, none⟩) i c)).run Tryz.prog w.drew = .ok ((flat l).take (i * 2)).toArray w.drew := by
  rw [hz1]
  exact run_firstCells_some w.drew 2 i ⟨g, 0, none⟩ i c ((flat l).take (i * 2)) hft (fun j v hj => by
   rw [Addr.add_lit, Nat.zero_add]
   rw [List.getElem?_take] at hj
   split at hj
   ·have hjj := (List.getElem?_eq_some_iff.1 hj).1
    have h3 := ho.row.cell hjj
    rw [List.getElem?_eq_getElem hjj] at hj
    rw [← hj]; exact h3
   ·cases hj)
 obtain ⟨G, hG⟩ : ∃ G, G = grownCap w (l.length + 1) c 60 := ⟨_, rfl⟩
 have hGn : l.length + 1 ≤ G := by rw [hG]; exact grownCap_ge w _ _ _
 have hG63 : G ≤ 9223372036854775807 := by
  have := grownCap_le_maxLen w (l.length + 1) c 60 (by unfold maxLen; omega)
  rw [← hG] at this
  unfold maxLen at this
  omega
 obtain ⟨ROW, hROW⟩ : ∃ ROW : Array Value, ROW = ((flat l).take (i * 2)).toArray ++ Builtin.zeroCells (Value.agg #[.string ⟨#[]⟩, .string ⟨#[]⟩]).cells (l.length + 1 - i) ++ Builtin.zeroCells (Value.agg #[.string ⟨#[]⟩, .string ⟨#[]⟩]).cells (G - (l.length + 1)) := ⟨_, rfl⟩
 have hkk : (l.length : Int) + 1 - (i : Int) = ((l.length + 1 - i : Nat) : Int) := by omega
 have hrz : ∀ ty, (Builtin.append_ #[27, 3] ty #[.slice (some ⟨g, 0, none⟩) i c, .int .i64 ((l.length : Int) + 1 - (i : Int))]).run Tryz.prog w = .ok (.slice (some ⟨w.heap.size, 0, none⟩) (l.length + 1) G) (w.drew.alloc (.cells ROW 60)) := fun ty => by
  have hik : i + (l.length + 1 - i) = l.length + 1 := by omega
  have h := Lib.run_append_grow_zeros w 27 3 ty 60 i0 _ .i64 .i64 Tryz.underlying27 Tryz.underlying3 hi0 hz0 (some ⟨g, 0, none⟩) i c ((flat l).take (i * 2)) hold (l.length + 1 - i) (by omega) (by omega) (by omega) (by omega) (by rw [hz2']; omega) (by rw [hz2', hik]; exact growslice_fits hroom (by omega))
  rw [hik] at h
  rw [hkk, hROW, hG]
  exact h
 have hRl : ROW.toList.length = G * 2 := by
  rw [hROW]
  simp [Builtin.zeroCells, Value.cells, hft]
  omega
 have hR0 : ROW.toList.take (i * 2) = (flat l).take (i * 2) := by
  rw [hROW]
  simp only [Array.toList_append, List.append_assoc]
  rw [List.take_append_of_le_length (by simp only [hft]; omega), List.take_of_length_le (by simp only [hft]; omega)]
 obtain ⟨R1, hR1⟩ : ∃ R1, R1 = ROW.toList.take (i * 2) ++ [.string key, .string val] ++ ROW.toList.drop (i * 2 + ([.string key, .string val] : List Value).length) := ⟨_, rfl⟩
 obtain ⟨R2, hR2⟩ : ∃ R2, R2 = R1.take ((i + 1) * 2) ++ (flat l).drop (i * 2) ++ R1.drop ((i + 1) * 2 + ((flat l).drop (i * 2)).length) := ⟨_, rfl⟩
 have hrg := rows_grow (flat_length l) (Nat.le_of_lt hi) hR0 hRl hGn rfl hR1 hR2
 have HR := jD hrg
 have hX : (w.alloc (.cells ROW 60)).heap[w.heap.size]? = some (.cells ROW 60 (0, 0)) := heap_alloc_new w _
 have hcA : ∀ (W : World), (∀ x, W.cell? x = (w.alloc (.cells ROW 60)).cell? x) → W.heap[w.heap.size]? = some (.cells ROW 60 (0, 0)) → ∀ ty dc, (Builtin.copy_ #[27, 27] ty #[.slice (some ⟨w.heap.size, i * 2, none⟩) (l.length + 1 - i) dc, .slice (some ⟨vb, 0, none⟩) 1 1]).run Tryz.prog W = .ok (goInt (Nat.min 1 (l.length + 1 - i))) (W.setRow w.heap.size R1.toArray) := fun W hWc hWg ty dc => by
  rw [hR1]
  exact copy_pairs W ty w.heap.size (i * 2) (l.length + 1 - i) dc ⟨vb, 0, none⟩ 1 1 ROW 60 [.string key, .string val] hWg (by rw [show Nat.min 1 (l.length + 1 - i) = 1 from Nat.min_eq_left (by omega)]; rfl) (fun j v hj => by
   rw [Addr.add_lit, Nat.zero_add, hWc, World.cell?_alloc_lt w _ _ hvw]
   have hjj := (List.getElem?_eq_some_iff.1 hj).1
   rw [hv.cell hjj, ← hj, List.getElem?_eq_getElem hjj]) (by have := hRl; simp only [Array.length_toList] at this; simp only [List.length_cons, List.length_nil]; omega) (pair_one key val)
 have hcB : ∀ (W : World), (∀ x, W.cell? x = ((w.alloc (.cells ROW 60)).setRow w.heap.size R1.toArray).cell? x) → W.heap[w.heap.size]? = some (.cells R1.toArray 60 (0, 0)) → ∀ ty dc sc, (Builtin.copy_ #[27, 27] ty #[.slice (some ⟨w.heap.size, (i + 1) * 2, none⟩) (l.length + 1 - (i + 1)) dc, .slice (some ⟨g, i * 2, none⟩) (l.length - i) sc]).run Tryz.prog W = .ok (goInt (Nat.min (l.length - i) (l.length + 1 - (i + 1)))) (W.setRow w.heap.size R2.toArray) := fun W hWc hWg ty dc sc => by
  have hthis := copy_pairs W ty w.heap.size ((i + 1) * 2) (l.length + 1 - (i + 1)) dc ⟨g, i * 2, none⟩ (l.length - i) sc R1.toArray 60 ((flat l).drop (i * 2)) hWg (by rw [hfd, show Nat.min (l.length - i) (l.length + 1 - (i + 1)) = l.length - i from Nat.min_eq_left (by omega)]) (fun j v hj => by
   rw [Addr.add_lit, hWc]
   have h4 : ((w.alloc (.cells ROW 60)).setRow w.heap.size R1.toArray).cell? ⟨g, i * 2 + j, none⟩ = (w.alloc (.cells ROW 60)).cell? ⟨g, i * 2 + j, none⟩ := World.cell?_of_block (setRow_other _ _ _ g (Nat.ne_of_lt hgw))
   rw [h4, World.cell?_alloc_lt w _ _ hgw]
   have hjj : i * 2 + j < (flat l).length := by rw [List.getElem?_drop] at hj; exact (List.getElem?_eq_some_iff.1 hj).1
   have h3 := ho.row.cell hjj
   rw [List.getElem?_drop, List.getElem?_eq_getElem hjj] at hj
   rw [← hj]
   exact h3) (by have := hrg.1; simp only [List.size_toArray]; omega) (fun v hv => flat_one l v (List.mem_of_mem_drop hv))
  rw [hR2]
  simpa using hthis
 have hA1 := hcA ((w.alloc (.cells ROW 60)).drew) (fun _ => rfl) hX
 have hA2 := hcA (w.drew.alloc (.cells ROW 60)) (fun _ => rfl) hX
 have hY : ((w.alloc (.cells ROW 60)).setRow w.heap.size R1.toArray).heap[w.heap.size]? = some (.cells R1.toArray 60 (0, 0)) := setRow_heap _ _ ROW _ _ _ hX
 have HY := jD hY
 have hw1 : IntKind.i64.wrap ((i : Int) + 1) = (i : Int) + 1 := IntWalk.i64_in _ (by omega)
 have hb1 : (0 : Int) ≤ (i : Int) + 1 := by omega
 have htn : ((i : Int) + 1).toNat = i + 1 := by omega
 have hGi : ¬ (G = i) := by omega
 have hGi1 : ¬ (G = i + 1) := by omega
 have hci : ¬ (c = i) := by omega
 have hb3 : (i : Int) + 1 ≤ (l.length : Int) + 1 := by omega
 have hb5 : (i : Int) ≤ (l.length : Int) := by omega
 have hb6 : i ≤ l.length := by omega
 have hz3 : (c : Int) < (l.length : Int) + 1 := by omega
 have mixed : Tryz.prog.follows Departure.mixedOrders = true := by kernel_rfl
 have HX := jD hX
 have HB := jD hcB
 clear hi0 hz0 hz1 hz2' hft hfd hold hG hROW hkk hRl hR0 hR1 hR2 hrg hcA hX hY ho hv hcB
 go_enter Tryz.func114, Tryz.ntmps114
 go_wp2_with (at_builtin; refine Lib.wpList_append_run _ rfl _ _ _ _ rfl _ _ rfl rfl _ _ (hrz _) ?_)
 have hB := HB.out (((w.alloc (.cells ROW 60)).drew.setRow w.heap.size R1.toArray).drew) (fun _ => rfl) HY.out
 clear hA1 hA2 hrz
 go_region_law_o (refine step_copy_runI rfl _ _ 27 27 rfl (.slice (some ⟨w.heap.size, (i + 1) * 2, none⟩) (l.length + 1 - (i + 1)) (G - (i + 1))) (.slice (some ⟨g, i * 2, none⟩) (l.length - i) (c - i)) (by simp [Act.eval, Act.put]) (by simp [Act.eval, Act.put]) (hB _ _ _) ?_)
 clear hB
 go_wp2
 go_ret
 have hfin : ((((w.alloc (.cells ROW 60)).drew.setRow w.heap.size R1.toArray).drew).setRow w.heap.size R2.toArray).heap[w.heap.size]? = some (.cells R2.toArray 60 (0, 0)) := setRow_heap _ _ R1.toArray _ _ _ HY.out
 refine ⟨w.heap.size, G, ?_, own_mid (p := (key, val)) hfin (by have := HR.out.2.1; simp only [List.size_toArray]; omega) hGn hG63 (Nat.le_of_lt hi) (by simpa using HR.out.2.2), .inr (nL _), ?_⟩
 ·have e1 : (l.take i ++ (key, val) :: l.drop i).length = l.length + 1 := by simp; omega
  rw [e1]; rfl
 ·refine ⟨rfl, rfl, rfl, ?_, fun k hk hne => ?_⟩
  ·rw [setRow_size]
   show w.heap.size ≤ ((w.alloc (.cells ROW 60)).drew.setRow w.heap.size R1.toArray).heap.size
   rw [setRow_size]
   show w.heap.size ≤ (w.alloc (.cells ROW 60)).heap.size
   simp
  ·rw [setRow_other _ _ _ k (Nat.ne_of_lt hk)]
   show ((w.alloc (.cells ROW 60)).drew.setRow w.heap.size R1.toArray).heap[k]? = _
   rw [setRow_other _ _ _ k (Nat.ne_of_lt hk)]
   exact Below.heap_alloc w _ k hk
theorem insert_new (g c vb : Nat) (l : PL) (key val : ByteArray) (w : World) (ho : OwnL w g c l) (hr : risingB l = true) (hn : l.length ≤ 1000) (hf : fndL l key = false) (hne : vb ≠ g) (hv : RowTo w vb 60 2 [.string key, .string val]) :
  Calls Tryz.prog 114 #[.slice (some ⟨g, 0, none⟩) l.length c, .int .i64 (posL l key), .slice (some ⟨vb, 0, none⟩) 1 1] w (InsPost w g (insL l key val)) := by
 rw [ins_new hr hf]
 have hp := posL_le l key
 by_cases h1 : posL l key = l.length
 ·rw [h1, List.take_length, List.drop_length]
  exact insert_end g c vb l key val w ho hn hv
 ·by_cases h2 : l.length + 1 ≤ c
  ·exact insert_room g c vb _ l key val w ho hn (by omega) h2 hne hv
  ·exact insert_grow g c vb _ l key val w ho hn (by omega) (by omega) hne hv
end Go.Proofs.YtpbaobmegomfpabGreatDoor
