/-
  Texts of the proof, one behind the other: Math, Math2, Mem, RefPlus, RefAt, RefMay, Say1, Say1v, Say4, Stm, Say7, Say8.
-/
import Derived.WalkKit
import Derived.Test.YtpbaobmegomfpabGreatDoorM1
import Derived.Lib.Bytealg
import Derived.Test.YtpbaobmegomfpabGreatDoorM2
import Derived.Laws.OwnMore
import Derived.Test.YtpbaobmegomfpabGreatDoorRows
import Derived.Maps.AppendAt
import Derived.OwnWalk
import Derived.WalkSmall
import Derived.Deep.QuietTactic
import Derived.BigQuiet
import Derived.Test.YtpbaobmegomfpabGreatDoorM3
import Derived.Test.YtpbaobmegomfpabGreatDoorM8
import Derived.Test.YtpbaobmegomfpabGreatDoorM7
import Derived.WalkSpells
import Derived.WalkLawsBesides
import Derived.Lib.Hide
import Derived.Test.YtpbaobmegomfpabGreatDoorM14
import Derived.IntWalk
import Derived.Test.YtpbaobmegomfpabGreatDoorM15
import Derived.Test.YtpbaobmegomfpabGreatDoorM16
set_option linter.unusedVariables false
set_option linter.unusedSimpArgs false
set_option maxRecDepth 100000
open List renaming getElem_toArray → gTA, getElem_cons_zero → gCZ, getElem_cons_succ → gCS, setIfInBounds_toArray → sTA, set_cons_zero → sCZ, set_cons_succ → sCS
open Go.Lib renaming hid → jD
open Nat renaming le_refl → nL
namespace Go.Proofs.YtpbaobmegomfpabGreatDoor
open Go.RowKit
theorem bndB_len {lo hi lim k : Nat} {s : ByteArray} (h : ∀ j (hj : j < s.size), j < k → lo ≤ s[j].toNat ∧ s[j].toNat ≤ hi) (hk : s.size ≤ k) :
  bndB lo hi lim s = inB 1 s.size lim := by
 by_cases h1 : 1 ≤ s.size ∧ s.size ≤ lim
 ·rw [bndB_good h1.1 h1.2 (fun j hj => h j hj (by omega)), inB_yes (by omega)]
 ·rw [bndB_short (by omega), inB_no (by omega)]
theorem blank_hit : ∀ {l : List UInt8} {k : Nat} (hk : k < l.length), l[k] = 32 → (∀ j (hj : j < l.length), j < k → l[j] ≠ 32) → blank l = k
 | [], k, hk, _, _ => by simp at hk
 | c :: l, 0, _, h, _ => by simp only [gCZ] at h; unfold blank; rw [h]; rfl
 | c :: l, k + 1, hk, h, hn => by
  have h0 := hn 0 (by simp) (by omega)
  simp only [gCZ] at h0
  unfold blank
  rw [if_neg (by simpa using h0), blank_hit (k := k) (by simpa using hk) (by simpa using h) (fun j hj hjk => hn (j + 1) (by simpa using hj) (by omega))]
theorem blank_miss : ∀ {l : List UInt8}, (∀ j (hj : j < l.length), l[j] ≠ 32) → blank l = l.length
 | [], _ => rfl
 | c :: l, hn => by
  have h0 := hn 0 (by simp)
  simp only [gCZ] at h0
  unfold blank
  rw [if_neg (by simpa using h0), blank_miss (fun j hj => hn (j + 1) (by simpa using hj))]
  rfl
theorem cutI_hit {s : ByteArray} {k : Nat} (hk : k < s.size) (h : s[k] = 32) (hn : ∀ j (hj : j < s.size), j < k → s[j] ≠ 32) : cutI s = k :=
 blank_hit (by simpa using hk) h (fun j hj => hn j (by simpa using hj))
theorem cutI_miss {s : ByteArray} (hn : ∀ j (hj : j < s.size), s[j] ≠ 32) : cutI s = s.size := by
 unfold cutI; rw [blank_miss (fun j hj => hn j (by simpa using hj))]; simp
def kindBefore (k : Nat) (s : ByteArray) : Nat := if kindN s < k then kindN s else 0
theorem kindBefore_hit {k : Nat} {s : ByteArray} (h : kindN s = k) : kindBefore (k + 1) s = k := by unfold kindBefore; rw [if_pos (by omega), h]
theorem kindBefore_miss {k : Nat} {s : ByteArray} (h : kindN s ≠ k) : kindBefore (k + 1) s = kindBefore k s := by
 unfold kindBefore
 by_cases h1 : kindN s < k
 ·rw [if_pos h1, if_pos (by omega)]
 ·rw [if_neg h1, if_neg (by omega)]
theorem kindBefore_one (s : ByteArray) : kindBefore 1 s = 0 := by
 unfold kindBefore; split <;> omega
theorem kindBefore_all (s : ByteArray) : kindBefore 12 s = kindN s := by
 unfold kindBefore; rw [if_pos (by have := kindN_le s; omega)]
theorem kindN_word_iff {s : ByteArray} {k : Nat} (h1 : 1 ≤ k) (h2 : k ≤ 11) : kindN s = k ↔ wordL k = s.data.toList :=
 ⟨fun h => by rw [← h]; exact kindN_word (by omega), fun h => kindN_hit h1 h2 h⟩
section
variable {w w' : World} {g t n B : Nat} {xs : List Value}
end
theorem Lst.flat_cells {w : World} {B n c : Nat} {ad : Addr} {l : PL} (h : Lst w B (.slice (some ad) n c) l) : ∀ j u, (flat l)[j]? = some u → w.cell? (ad.add j) = some u := by
 intro j u hj
 have hlt : j < (flat l).length := (List.getElem?_eq_some_iff.1 hj).1
 rw [flat_length] at hlt
 obtain ⟨b, off, e, _, c0, c1⟩ := h.pt (k := j / 2) (by omega)
 injection e with e
 subst e
 rw [Addr.add_lit]
 rcases Nat.mod_two_eq_zero_or_one j with h2 | h2
 ·have h3 : j / 2 * 2 = j := by omega
  have h4 := flat_fst l (j / 2) (by omega)
  rw [h3] at h4 c0
  rw [c0, ← h4, hj]
 ·have h3 : j / 2 * 2 + 1 = j := by omega
  have h4 := flat_snd l (j / 2) (by omega)
  rw [Nat.add_assoc, h3] at c1
  rw [h3] at h4
  rw [c1, ← h4, hj]
theorem ownsRow_less {w : World} {base base' e size n : Nat} {v : Value} {xs : List Value} (h : w.ownsRow base e size v n xs) (hb : base' ≤ base) : w.ownsRow base' e size v n xs := by
 obtain ⟨h1, h2 | ⟨g, cap, cur, hv, hg, r⟩⟩ := h
 ·exact ⟨h1, .inl h2⟩
 ·exact ⟨h1, .inr ⟨g, cap, cur, hv, Nat.le_trans hb hg, r⟩⟩
theorem own_lst {w : World} {base t : Nat} {v : Value} {l : PL} (h : w.ownsRow base t 2 v l.length (flat l)) (hby : l.length * 32 ≤ 140737488351232) (hs : ∀ p ∈ l, p.1.size ≤ 140737488351232 ∧ p.2.size ≤ 140737488351232) : Lst w w.heap.size v l := by
 obtain ⟨hl, h1 | ⟨g, cap, cur, hv, hg, hh, hc, hm, hz, hx⟩⟩ := h
 ·obtain ⟨hv, hn⟩ := h1
  subst hv
  exact ⟨⟨none, 0, by rw [hn], by omega⟩, hby, hs, fun h => by omega, fun n c h => by injection h with _ _ h; exact h.symm⟩
 ·subst hv
  have hr : RowTo w g t (cap * 2) (flat l) := ⟨cur, hh, hz, by rw [flat_length]; exact hx⟩
  exact hr.lst hc hr.lt hby hs
theorem cell_pair_new (w : World) (a b : ByteArray) (t : TypeId) : ∀ j u, ([.string a, .string b] : List Value)[j]? = some u → (w.alloc (.cells #[.string a, .string b] t)).cell? ((⟨w.heap.size, 0, none⟩ : Addr).add j) = some u := by
 intro j u h
 rw [Addr.add_lit, Nat.zero_add, World.cell?_alloc_at _ _ _ _ rfl]
 simpa using h
theorem grow_bel {B : Nat} {w wr w1 : World} {o : Obj} {e : TypeId} {s n : Nat} {v : Value} {xs : List Value} (hb : Below B w wr) (hg : (wr.alloc o).grownBy w1 v.ownBlock) (hw : wr.ownsRow B e s v n xs) (hB : B ≤ w.heap.size := by exact nL _) : Below B w w1 := by
 have h1 := hb.alloc (Nat.le_trans hB hb.size) o
 refine h1.grown hg (by have := h1.size; omega) (fun k hk => (hw.lt k hk).1)
section
variable {l out : PL} {key val : ByteArray} {k : Nat} {p : ByteArray × ByteArray} {r : PL}
theorem plus_both (h : out ++ plusGo key val false (l.drop k) = plusL l key val) (hd : l.drop k = p :: r) (hq : ltB p.1 key = false) (he : eqB p.1 key = false) : out ++ [(key, val)] ++ [p] ++ plusGo key val true r = plusL l key val := by
 rw [← h, hd, plusGo, hq, he]; simp
theorem plus_first (h : out ++ plusGo key val false (l.drop k) = plusL l key val) (hd : l.drop k = p :: r) (hq : ltB p.1 key = false) (he : eqB p.1 key = true) : out ++ [(key, val)] ++ plusGo key val true r = plusL l key val := by
 rw [← h, hd, plusGo, hq, he]; simp
theorem plus_less (h : out ++ plusGo key val false (l.drop k) = plusL l key val) (hd : l.drop k = p :: r) (hq : ltB p.1 key = true) : out ++ [p] ++ plusGo key val false r = plusL l key val := by
 rw [← h, hd, plusGo, hq, eqB_false.2 (ltB_ne hq)]; simp
theorem plus_rest (h : out ++ plusGo key val true (l.drop k) = plusL l key val) (hd : l.drop k = p :: r) (he : eqB p.1 key = false) : out ++ [p] ++ plusGo key val true r = plusL l key val := by
 rw [← h, hd, plusGo, he]; simp
theorem plus_skip (h : out ++ plusGo key val true (l.drop k) = plusL l key val) (hd : l.drop k = p :: r) (he : eqB p.1 key = true) : out ++ plusGo key val true r = plusL l key val := by
 rw [← h, hd, plusGo, he]; simp
theorem plus_endF (h : out ++ plusGo key val false (l.drop k) = plusL l key val) (hd : l.drop k = []) : out ++ [(key, val)] = plusL l key val := by
 rw [← h, hd, plusGo]; rfl
theorem plus_endT (h : out ++ plusGo key val true (l.drop k) = plusL l key val) (hd : l.drop k = []) : out = plusL l key val := by
 rw [← h, hd, plusGo]; simp
end
def PlusRel (w : World) (l : PL) (key val : ByteArray) (n : Nat) (v : Value) (d : Bool) (wr : World) : Prop :=
 ∃ out, out ++ plusGo key val d (l.drop n) = plusL l key val ∧ out.length ≤ n + d.toNat ∧ wr.ownsRow w.heap.size 60 2 v out.length (flat out) ∧ Below w.heap.size w wr
set_option maxHeartbeats 1000000 in
theorem plus_any (v : Value) (l : PL) (key val : ByteArray) (w : World) (hl : Lst w w.heap.size v l) :
  Calls Tryz.prog 124 #[v, .string key, .string val] w fun e w' => ∃ v', e = .returned v' ∧ w'.ownsRow w.heap.size 60 2 v' (plusL l key val).length (flat (plusL l key val)) ∧ Below w.heap.size w w' := by
 obtain ⟨A, c, rfl, hc⟩ := hl.form
 have hby := hl.bytes
 have HL := jD hl
 clear hl
 obtain ⟨i0, hi, hz0, hz1, hz2⟩ := info_parts pair_row
 have HI := jD (And.intro hi (And.intro hz0 (And.intro hz1 hz2)))
 clear hi hz0 hz1 hz2
 go_enter Tryz.func124, Tryz.ntmps124
 go_wp2
 go_loopw [7, 8, 9] (fun o d i wr => ∃ (k : Nat) (b : Bool), k ≤ l.length ∧ i = .int .i64 k ∧ d = .bool b ∧ PlusRel w l key val k o b wr) (fun _ _ i _ => l.length - (intOf i).toNat)
 case atStart => exact ⟨0, false, by omega, rfl, rfl, [], rfl, by simp, World.ownsRow_nil _ _ _ _, Below.refl _ _⟩
 case round =>
  obtain ⟨k, d, hk, rfl, rfl, out, hout, hol, hown, bel⟩ := hrel
  by_cases hlt : k < l.length
  ·obtain ⟨b, off, rfl, hb, c0, c1⟩ := HL.out.pt hlt
   have d0 := (bel.cell (p := ⟨b, off + k * 2, none⟩) hb).trans c0
   have d1 := (bel.cell (p := ⟨b, off + k * 2 + 1, none⟩) hb).trans c1
   have hbw : b < wr.heap.size := Nat.lt_of_lt_of_le hb bel.size
   have HO := jD hout
   have HW := jD hown
   have HB := jD bel
   clear hout hown bel
   have HD := jD (List.drop_eq_getElem_cons hlt)
   have hsz := HB.out.size
   cases d <;> simp only [Bool.toNat_false, Bool.toNat_true] at hol
   ·cases hq : ltB l[k].1 key
    ·have hge : binOp .geq 9 (.string l[k].1) (.string key) = pure (.bool true) := by unfold ltB at hq; simp [binOp, Op.stringOp, hq]
     cases he : eqB l[k].1 key
     ·have HP := jD (plus_both HO.out HD.out hq he)
      unfold eqB at he
      clear hq
      go_wp2_with (first | (at_builtin; refine wpList_append_own_at _ rfl _ _ 27 rfl w.heap.size 60 i0 _ 2 32 Tryz.underlying27 HI.out.1 HI.out.2.1 HI.out.2.2.1 HI.out.2.2.2 rfl (by decide) _ _ _ rfl (HW1.out.alloc _) ⟨w1.heap.size, 0, none⟩ 1 1 [.string l[k].1, .string l[k].2] rfl rfl (cell_pair_new _ _ _ _) (pair_one _ _) (by unfold maxLen; omega) (by omega) (by simp; omega) ?_; intro v2 w2 ho2 hg2 _ _) | (at_builtin; refine wpList_append_own_at _ rfl _ _ 27 rfl w.heap.size 60 i0 _ 2 32 Tryz.underlying27 HI.out.1 HI.out.2.1 HI.out.2.2.1 HI.out.2.2.2 rfl (by decide) _ _ _ rfl (HW.out.alloc _) ⟨wr.heap.size, 0, none⟩ 1 1 [.string key, .string val] rfl rfl (cell_pair_new _ _ _ _) (pair_one _ _) (by unfold maxLen; omega) (by omega) (by simp; omega) ?_; intro v1 w1 ho1 hg1 _ _; have HW1 := jD ho1; have HB1 := jD (grow_bel HB.out hg1 HW.out); have hsz1 := HB1.out.size; have e0 := (HB1.out.cell (p := ⟨b, off + k * 2, none⟩) hb).trans c0; have e1 := (HB1.out.cell (p := ⟨b, off + k * 2 + 1, none⟩) hb).trans c1; have hbw1 : b < w1.heap.size := Nat.lt_of_lt_of_le hb hsz1))
      go_roundw
      case rel => exact ⟨k + 1, true, by omega, by go_num, rfl, out ++ [(key, val)] ++ [l[k]], HP.out, by simp [Bool.toNat]; omega, by have := ho2; rw [flat_append, flat_append, List.length_append, List.length_append]; exact this, grow_bel HB1.out hg2 HW1.out⟩
      case measure => simp [intOf]; omega
     ·have HP := jD (plus_first HO.out HD.out hq he)
      unfold eqB at he
      clear hq
      go_wp2_with (at_builtin; refine wpList_append_own_at _ rfl _ _ 27 rfl w.heap.size 60 i0 _ 2 32 Tryz.underlying27 HI.out.1 HI.out.2.1 HI.out.2.2.1 HI.out.2.2.2 rfl (by decide) _ _ _ rfl (HW.out.alloc _) ⟨wr.heap.size, 0, none⟩ 1 1 [.string key, .string val] rfl rfl (cell_pair_new _ _ _ _) (pair_one _ _) (by unfold maxLen; omega) (by omega) (by simp; omega) ?_; intro v1 w1 ho1 hg1 _ _; have HW1 := jD ho1; have HB1 := jD (grow_bel HB.out hg1 HW.out); have hsz1 := HB1.out.size; have e0 := (HB1.out.cell (p := ⟨b, off + k * 2, none⟩) hb).trans c0; have e1 := (HB1.out.cell (p := ⟨b, off + k * 2 + 1, none⟩) hb).trans c1; have hbw1 : b < w1.heap.size := Nat.lt_of_lt_of_le hb hsz1)
      go_roundw
      case rel => exact ⟨k + 1, true, by omega, by go_num, rfl, out ++ [(key, val)], HP.out, by simp [Bool.toNat]; omega, by have := ho1; rw [flat_append, List.length_append]; exact this, HB1.out⟩
      case measure => simp [intOf]; omega
    ·have hge : binOp .geq 9 (.string l[k].1) (.string key) = pure (.bool false) := by unfold ltB at hq; simp [binOp, Op.stringOp, hq]
     have he : eqB l[k].1 key = false := eqB_false.2 (ltB_ne hq)
     have HP := jD (plus_less HO.out HD.out hq)
     unfold eqB at he
     clear hq
     go_wp2_with (at_builtin; refine wpList_append_own_at _ rfl _ _ 27 rfl w.heap.size 60 i0 _ 2 32 Tryz.underlying27 HI.out.1 HI.out.2.1 HI.out.2.2.1 HI.out.2.2.2 rfl (by decide) _ _ _ rfl (HW.out.alloc _) ⟨wr.heap.size, 0, none⟩ 1 1 [.string l[k].1, .string l[k].2] rfl rfl (cell_pair_new _ _ _ _) (pair_one _ _) (by unfold maxLen; omega) (by omega) (by simp; omega) ?_; intro v2 w2 ho2 hg2 _ _)
     go_roundw
     case rel => exact ⟨k + 1, false, by omega, by go_num, rfl, out ++ [l[k]], HP.out, by simp [Bool.toNat]; omega, by have := ho2; rw [flat_append, List.length_append]; exact this, grow_bel HB.out hg2 HW.out⟩
     case measure => simp [intOf]; omega
   ·cases he : eqB l[k].1 key
    ·have HP := jD (plus_rest HO.out HD.out he)
     unfold eqB at he
     go_wp2_with (at_builtin; refine wpList_append_own_at _ rfl _ _ 27 rfl w.heap.size 60 i0 _ 2 32 Tryz.underlying27 HI.out.1 HI.out.2.1 HI.out.2.2.1 HI.out.2.2.2 rfl (by decide) _ _ _ rfl (HW.out.alloc _) ⟨wr.heap.size, 0, none⟩ 1 1 [.string l[k].1, .string l[k].2] rfl rfl (cell_pair_new _ _ _ _) (pair_one _ _) (by unfold maxLen; omega) (by omega) (by simp; omega) ?_; intro v2 w2 ho2 hg2 _ _)
     go_roundw
     case rel => exact ⟨k + 1, true, by omega, by go_num, rfl, out ++ [l[k]], HP.out, by simp [Bool.toNat]; omega, by have := ho2; rw [flat_append, List.length_append]; exact this, grow_bel HB.out hg2 HW.out⟩
     case measure => simp [intOf]; omega
    ·have HP := jD (plus_skip HO.out HD.out he)
     unfold eqB at he
     go_wp2
     go_roundw
     case rel => exact ⟨k + 1, true, by omega, by go_num, rfl, out, HP.out, by simp only [Bool.toNat_true]; omega, HW.out, HB.out⟩
     case measure => simp [intOf]; omega
  ·have hnil : l.drop k = [] := List.drop_eq_nil_of_le (by omega)
   have HN := jD hnil
   have HO := jD hout
   have HW := jD hown
   have HB := jD bel
   have hsz := bel.size
   clear hout hown bel hnil
   cases d <;> simp only [Bool.toNat_false, Bool.toNat_true] at hol
   ·have HE := jD (plus_endF HO.out HN.out)
    go_wp2_with (at_builtin; refine wpList_append_own_at _ rfl _ _ 27 rfl w.heap.size 60 i0 _ 2 32 Tryz.underlying27 HI.out.1 HI.out.2.1 HI.out.2.2.1 HI.out.2.2.2 rfl (by decide) _ _ _ rfl (HW.out.alloc _) ⟨wr.heap.size, 0, none⟩ 1 1 [.string key, .string val] rfl rfl (cell_pair_new _ _ _ _) (pair_one _ _) (by unfold maxLen; omega) (by omega) (by simp; omega) ?_; intro v1 w1 ho1 hg1 _ _)
    go_ret
    refine ⟨_, rfl, ?_, grow_bel HB.out hg1 HW.out⟩
    rw [← HE.out, flat_append, List.length_append]
    exact ho1
   ·have HE := jD (plus_endT HO.out HN.out)
    go_wp2
    go_ret
    refine ⟨_, rfl, ?_, HB.out⟩
    rw [← HE.out]
    exact HW.out
set_option maxHeartbeats 400000 in
theorem pairs_any (v : Value) (l : PL) (w : World) (hl : Lst w w.heap.size v l) :
  Calls Tryz.prog 33 #[v] w fun e w' => ∃ v', e = .returned v' ∧ w'.ownsRow w.heap.size 60 2 v' l.length (flat l) ∧ Below w.heap.size w w' := by
 obtain ⟨A, c, rfl, hc⟩ := hl.form
 have hby := hl.bytes
 obtain ⟨i0, hi, hz0, hz1, hz2⟩ := info_parts pair_row
 have HI := jD (And.intro hi (And.intro hz0 (And.intro hz1 hz2)))
 clear hi hz0 hz1 hz2
 have hn : Hid (w.ownsRow w.heap.size 60 2 (.slice none 0 0) 0 []) := World.ownsRow_nil _ _ _ _
 cases A with
 | none =>
  have h0 : l.length = 0 := by
   by_cases h : 0 < l.length
   ·obtain ⟨b, off, c', e, _⟩ := hl.cells h
    cases e
   ·omega
  have hl0 : l = [] := List.length_eq_zero_iff.1 h0
  obtain rfl : c = 0 := hl.nil _ _ rfl
  subst hl0
  clear hl h0
  go_enter Tryz.func33, Tryz.ntmps33
  go_wp2_with (at_builtin; refine wpList_append_own_none rfl _ _ 27 rfl w.heap.size 60 i0 2 Tryz.underlying27 HI.out.1 _ _ _ rfl hn.out rfl ?_)
  go_ret
  exact ⟨_, rfl, World.ownsRow_nil _ _ _ _, Below.refl _ _⟩
 | some ad =>
  have HL := jD hl
  have HF := jD (flat_length l)
  clear hl
  go_enter Tryz.func33, Tryz.ntmps33
  go_wp2_with (at_builtin; refine wpList_append_own_at _ rfl _ _ 27 rfl w.heap.size 60 i0 _ 2 32 Tryz.underlying27 HI.out.1 HI.out.2.1 HI.out.2.2.1 HI.out.2.2.2 rfl (by decide) _ _ _ rfl hn.out ad l.length c (flat l) rfl HF.out HL.out.flat_cells (flat_one l) (by unfold maxLen; omega) (by omega) (nL _) ?_; intro v1 w1 ho1 hg1 _ _)
  go_ret
  rw [Nat.zero_add, List.nil_append] at ho1
  exact ⟨_, rfl, ho1, (Below.refl _ _).grown hg1 (nL _) (fun k hk => by cases hk)⟩
def atV (o : Option ByteArray) : Value := match o with | some v => .tuple #[.string v, .bool true] | none => .tuple #[.string ⟨#[]⟩, .bool false]
theorem atL_hit {l : PL} {k : ByteArray} {i : Nat} (hi : i < l.length) (h : eqB l[i].1 k = true) (hn : ∀ j (hj : j < l.length), j < i → eqB l[j].1 k = false) : atL l k = some l[i].2 := by
 induction l generalizing i with
 | nil => simp at hi
 | cons p l ih =>
  cases i with
  | zero => simp only [gCZ] at h ⊢; unfold atL; rw [if_pos h]
  | succ i =>
   have h0 := hn 0 (by simp) (by omega)
   simp only [gCZ] at h0
   unfold atL; rw [h0, if_neg (by simp)]
   exact ih (by simpa using hi) (by simpa using h) (fun j hj hji => hn (j + 1) (by simpa using hj) (by omega))
theorem atL_miss {l : PL} {k : ByteArray} (hn : ∀ j (hj : j < l.length), eqB l[j].1 k = false) : atL l k = none := by
 induction l with
 | nil => rfl
 | cons p l ih =>
  have h0 := hn 0 (by simp)
  simp only [gCZ] at h0
  unfold atL; rw [h0, if_neg (by simp)]
  exact ih (fun j hj => hn (j + 1) (by simpa using hj))
set_option maxHeartbeats 400000 in
theorem at_any (v : Value) (l : PL) (key : ByteArray) (w : World) (B : Nat) (hl : Lst w B v l) :
  Calls Tryz.prog 125 #[v, .string key] w fun e w' => e = .returned (atV (atL l key)) ∧ w = w' := by
 obtain ⟨A, c, rfl, hc⟩ := hl.form
 have hby := hl.bytes
 have HL := jD hl
 clear hl
 go_enter Tryz.func125, Tryz.ntmps125
 go_wp2
 go_loop [6] (fun i => ∃ k : Nat, k ≤ l.length ∧ i = .int .i64 k ∧ Hid (∀ j (hj : j < l.length), j < k → eqB l[j].1 key = false)) (fun i => l.length - (intOf i).toNat)
 case atStart => exact ⟨0, by omega, rfl, fun j hj h => by omega⟩
 case round =>
  obtain ⟨k, hk, rfl, hall⟩ := hrel
  by_cases hlt : k < l.length
  ·obtain ⟨b, off, rfl, hb, c0, c1⟩ := HL.out.pt hlt
   go_wp2
   ·have h : (l[k].1.toList == key.toList) = true := by assumption
    have hf := atL_hit hlt h (fun j hj hjk => hall.out j hj hjk)
    go_ret2
    exact ⟨by rw [hf]; rfl, rfl⟩
   ·have h : (l[k].1.toList == key.toList) = false := by assumption
    go_round
    case rel =>
     refine ⟨k + 1, by omega, by go_num, fun j hj hjk => ?_⟩
     by_cases e : j = k
     ·subst e; exact h
     ·exact hall.out j hj (by omega)
    case measure => simp [intOf]; omega
  ·have hk := jD (atL_miss (fun j hj => hall.out j hj (by omega)))
   go_wp2
   go_ret2
   exact ⟨by rw [hk.out]; rfl, rfl⟩
set_option maxHeartbeats 1000000 in
theorem isHeld_any (r s : Value) (W : Wd) (me : Int) (key : ByteArray) (w : World) (hW : Wld w w.heap.size r s W) :
  Calls Tryz.prog 127 #[.agg #[r, s], .int .i64 me, .string key] w fun e w' => e = .returned (.bool (heldB W.ss me key)) ∧ Below w.heap.size w w' := by
 obtain ⟨hr, hs⟩ := hW
 obtain ⟨A, c, rfl, hc⟩ := hs.form
 obtain ⟨D, d, rfl, hd⟩ := hr.form
 have hby := hs.bytes
 have HS := jD hs
 clear hs hr
 have b0 : Below w.heap.size w (w.alloc (.cells #[.slice D W.rows.length d, .slice A W.ss.length c] 39)) := (Below.refl _ _).alloc (nL _) _
 go_enter Tryz.func127, Tryz.ntmps127
 go_wp2
 go_loop [7] (fun i => ∃ k : Nat, k ≤ W.ss.length ∧ i = .int .i64 k ∧ Hid (∀ j (hj : j < W.ss.length), j < k → (atL W.ss[j].wr key).isSome = true → (j : Int) = me)) (fun i => W.ss.length - (intOf i).toNat)
 case atStart => exact ⟨0, by omega, rfl, fun j hj h => by omega⟩
 case round =>
  obtain ⟨k, hk, rfl, hall⟩ := hrel
  by_cases hlt : k < W.ss.length
  ·obtain ⟨b, off, v1, v2, v3, v4, rfl, hb, hses⟩ := HS.out.pt hlt
   have l4 := hses.l4
   obtain ⟨A4, c4, rfl, _⟩ := l4.form
   have c4' := hses.c4
   have HL := jD l4
   clear l4 hses
   go_wp2_with fail
   refine (at_any _ _ key _ _ (HL.out.step b0)).mono ?_
   cases ha : atL W.ss[k].wr key with
   | none =>
    rintro e w1 ⟨rfl, rfl⟩
    unfold atV
    have HA := jD ha
    clear ha
    go_wp2
    go_round
    case rel =>
     refine ⟨k + 1, by omega, by go_num, fun j hj hjk hs => ?_⟩
     by_cases e : j = k
     ·subst e; rw [HA.out] at hs; cases hs
     ·exact hall.out j hj (by omega) hs
    case measure => simp [intOf]; omega
   | some x =>
    rintro e w1 ⟨rfl, rfl⟩
    unfold atV
    have HA := jD ha
    clear ha
    by_cases hme : (k : Int) = me
    ·have h1 : ((k : Int) != me) = false := by simp [hme]
     have HM := jD hme
     clear hme
     go_wp2
     go_round
     case rel =>
      refine ⟨k + 1, by omega, by go_num, fun j hj hjk hs => ?_⟩
      by_cases e : j = k
      ·subst e; exact HM.out
      ·exact hall.out j hj (by omega) hs
     case measure => simp [intOf]; omega
    ·have h1 : ((k : Int) != me) = true := bne_iff_ne.2 hme
     have HP := jD (heldB_yes (me := me) (key := key) hlt (by rw [HA.out]; rfl) hme)
     clear hme
     go_wp2
     go_ret
     exact ⟨by rw [HP.out]; rfl, b0⟩
  ·have HP := jD (heldB_no (fun j hj => hall.out j hj (by omega)))
   go_wp2
   go_ret
   exact ⟨by rw [HP.out]; rfl, b0⟩
def AllRel (w : World) (W : Wd) (rest : PL) (cnt : Nat) (v : Value) (wr : World) : Prop :=
 ∃ out, allF out rest = allL W ∧ out.length ≤ 100 + cnt ∧ (∀ p ∈ out, p.1.size ≤ 140737488351232 ∧ p.2.size ≤ 140737488351232) ∧ wr.ownsRow w.heap.size 60 2 v out.length (flat out) ∧ Below w.heap.size w wr
set_option maxHeartbeats 2000000 in
theorem allRows_any (r s : Value) (W : Wd) (w : World) (hW : Wld w w.heap.size r s W) (hr100 : W.rows.length ≤ 100) (h8 : W.ss.length ≤ 8) (hw100 : ∀ i (hi : i < W.ss.length), W.ss[i].wr.length ≤ 100) :
  Calls Tryz.prog 128 #[.agg #[r, s]] w fun e w' => ∃ v', e = .returned v' ∧ w'.ownsRow w.heap.size 60 2 v' (allL W).length (flat (allL W)) ∧ Below w.heap.size w w' := by
 obtain ⟨hr, hs⟩ := hW
 obtain ⟨A, c, rfl, hc⟩ := hs.form
 obtain ⟨D, d, rfl, hd⟩ := hr.form
 have hby := hs.bytes
 have HS := jD hs
 have HR := jD hr
 have HN := jD hw100
 clear hs hr hw100
 have b0 : Below w.heap.size w (w.alloc (.cells #[.slice D W.rows.length d, .slice A W.ss.length c] 39)) := (Below.refl _ _).alloc (nL _) _
 have HX := jD (RowTo.whole w #[.slice D W.rows.length d, .slice A W.ss.length c] 39)
 go_enter Tryz.func128, Tryz.ntmps128
 go_wp2_with fail
 refine (pairs_any _ W.rows _ (HR.out.step b0)).mono ?_
 rintro e w1 ⟨v1, rfl, ho1, hb1⟩
 have HX1 := jD (HX.out.below hb1 HX.out.lt)
 have hown0 : Hid (w1.ownsRow w.heap.size 60 2 v1 W.rows.length (flat W.rows)) := ownsRow_less ho1 (by simp)
 have bel1 := jD (bel_add' b0 hb1 b0.size)
 clear ho1 hb1
 go_wp2
 go_loopw [3, 4] (fun o i wr => ∃ k : Nat, k ≤ W.ss.length ∧ i = .int .i64 k ∧ AllBox w (.slice D W.rows.length d) (.slice A W.ss.length c) wr ∧ AllRel w W (restOf W.ss k) (k * 100) o wr) (fun _ i _ => W.ss.length - (intOf i).toNat)
 case atStart => exact ⟨0, by omega, rfl, HX1.out, W.rows, rfl, by omega, HR.out.sizes, hown0.out, bel1.out⟩
 case round =>
  clear hown0 bel1 HX1 HX b0
  obtain ⟨i, hi, rfl, hbox, out, hout, hol, hosz, hown, bel⟩ := hrel
  have x0 := hbox.cell (j := 0) (by simp)
  have x1 := hbox.cell (j := 1) (by simp)
  simp only [gCZ, gCS] at x0 x1
  have hxl := hbox.lt
  by_cases hlt : i < W.ss.length
  ·obtain ⟨b, off, v1, v2, v3, v4, rfl, hb, hses⟩ := HS.out.pt hlt
   have l4 := hses.l4
   obtain ⟨A4, c4, rfl, _⟩ := l4.form
   have c4' := hses.c4
   have h100 := HN.out i hlt
   have hb4 := l4.bytes
   have HL := jD l4
   have HO := jD (show allF out (W.ss[i].wr.drop 0 ++ restOf W.ss (i + 1)) = allL W by rw [List.drop_zero, ← restOf_step hlt]; exact hout)
   have HZ := jD hosz
   have HW := jD hown
   have HB := jD bel
   have HX := jD hbox
   clear l4 hses hout hosz hown bel hbox
   generalize hsk : W.ss[i].wr = l at *
   have HK := jD hsk
   clear hsk
   go_wp2
   go_loopw [3, 5] (fun o j wr => ∃ k : Nat, k ≤ l.length ∧ j = .int .i64 k ∧ AllBox w (.slice D W.rows.length d) (.slice (some ⟨b, off, none⟩) W.ss.length c) wr ∧ AllRel w W (l.drop k ++ restOf W.ss (i + 1)) (i * 100 + k) o wr) (fun _ j _ => l.length - (intOf j).toNat)
   case atStart => exact ⟨0, by omega, rfl, HX.out, out, HO.out, by omega, HZ.out, HW.out, HB.out⟩
   case round =>
    clear HX HW HB HO HZ x0 x1 hxl hol
    obtain ⟨k, hk, rfl, hbox, out, hout, hol, hosz, hown, bel⟩ := hrel
    have x0 := hbox.cell (j := 0) (by simp)
    have x1 := hbox.cell (j := 1) (by simp)
    simp only [gCZ, gCS] at x0 x1
    have hxl := hbox.lt
    have y4 := (bel.cell (p := ⟨b, off + i * 5 + 4, none⟩) hb).trans c4'
    by_cases hlk : k < l.length
    ·obtain ⟨b', off', rfl, hb', d0, d1⟩ := HL.out.pt hlk
     have z0 := (bel.cell (p := ⟨b', off' + k * 2, none⟩) hb').trans d0
     obtain ⟨zk, _⟩ := HL.out.key hlk
     have HD := jD (show allF (plusL out l[k].1 ⟨#[]⟩) (l.drop (k + 1) ++ restOf W.ss (i + 1)) = allL W by rw [← hout, List.drop_eq_getElem_cons hlk]; rfl)
     have hpl := plusL_len out l[k].1 ⟨#[]⟩
     have HM := jD (fun q (hq : q ∈ plusL out l[k].1 ⟨#[]⟩) => plusL_mem hq)
     have HZ := jD hosz
     have HX := jD hbox
     have HB := jD bel
     have HW := jD (own_lst hown (by omega) hosz)
     clear hout hosz hown bel hbox
     go_wp2_with fail
     refine (plus_any _ out l[k].1 _ _ HW.out).mono ?_
     rintro e w2 ⟨v2, rfl, ho2, hb2⟩
     have HW2 := jD (ownsRow_less ho2 HB.out.size)
     have HB2 := jD (bel_add' HB.out hb2 HB.out.size)
     have HX2 := jD (HX.out.below hb2 HX.out.lt)
     clear ho2 hb2
     go_wp2
     go_roundw
     case rel =>
      refine ⟨k + 1, by omega, by go_num, HX2.out, plusL out l[k].1 ⟨#[]⟩, HD.out, by omega, fun q hq => ?_, HW2.out, HB2.out⟩
      rcases HM.out q hq with rfl | hq
      ·exact ⟨zk, Nat.zero_le _⟩
      ·exact HZ.out q hq
     case measure => simp [intOf]; omega
    ·have HD := jD (show allF out (restOf W.ss (i + 1)) = allL W by rw [← hout, List.drop_eq_nil_of_le (by omega)]; rfl)
     have HZ := jD hosz
     have HX := jD hbox
     have HB := jD bel
     have HW := jD hown
     clear hout hosz hown bel hbox
     go_wp2
     go_roundw
     case rel => exact ⟨i + 1, by omega, by go_num, HX.out, out, HD.out, by omega, HZ.out, HW.out, HB.out⟩
     case measure => simp [intOf]; omega
  ·have HD := jD (show out = allL W by rw [← hout, restOf_end (by omega)]; rfl)
   have HB := jD bel
   have HW := jD hown
   clear hout hosz hown bel hbox
   go_wp2
   go_ret
   exact ⟨_, rfl, by rw [← HD.out]; exact HW.out, HB.out⟩
set_option maxHeartbeats 400000 in
theorem in_any (n a b : Int) (w : World) :
  Calls Tryz.prog 28 #[.int .i64 n, .int .i64 a, .int .i64 b] w fun e w' => e = .returned (.bool (inB a n b)) ∧ w = w' := by
 by_cases h1 : a ≤ n
 ·go_enter Tryz.func28, Tryz.ntmps28
  go_wp2
  go_ret
  exact ⟨by simp [inB, h1], rfl⟩
 ·go_enter Tryz.func28, Tryz.ntmps28
  go_wp2
  go_ret
  exact ⟨by simp [inB]; omega, rfl⟩
theorem in_yes (n a b : Int) (w : World) (h : a ≤ n ∧ n ≤ b) :
  Calls Tryz.prog 28 #[.int .i64 n, .int .i64 a, .int .i64 b] w fun e w' => e = .returned (.bool true) ∧ w = w' :=
 (in_any n a b w).mono fun _ _ ⟨he, hw⟩ => ⟨by rw [he, inB_yes h], hw⟩
theorem in_no (n a b : Int) (w : World) (h : ¬ (a ≤ n ∧ n ≤ b)) :
  Calls Tryz.prog 28 #[.int .i64 n, .int .i64 a, .int .i64 b] w fun e w' => e = .returned (.bool false) ∧ w = w' :=
 (in_any n a b w).mono fun _ _ ⟨he, hw⟩ => ⟨by rw [he, inB_no h], hw⟩
set_option maxHeartbeats 400000 in
theorem nameMay_any (s : ByteArray) (w : World) (hs : s.size ≤ maxLen) :
  Calls Tryz.prog 82 #[.string s] w fun e w' => e = .returned (.bool (bndB 97 122 8 s)) ∧ w = w' := by
 unfold maxLen at hs
 go_enter Tryz.func82, Tryz.ntmps82
 go_wp2
 go_loop [3] (fun c => ∃ k : Nat, k ≤ s.size ∧ c = .int .i64 k ∧ Hid (∀ j (hj : j < s.size), j < k → 97 ≤ s[j].toNat ∧ s[j].toNat ≤ 122)) (fun c => s.size - (intOf c).toNat)
 case atStart => exact ⟨0, Nat.zero_le _, rfl, fun _ _ h => absurd h (Nat.not_lt_zero _)⟩
 case round =>
  obtain ⟨k, hk, rfl, hall⟩ := hrel
  by_cases hlt : k < s.size
  ·have hby : s[k].toNat < 256 := s[k].toNat_lt
   by_cases g : 97 ≤ s[k].toNat ∧ s[k].toNat ≤ 122
   ·obtain ⟨g1, g2⟩ := g
    go_wp2_with (go_at_call 28; refine (in_yes _ _ _ _ (by omega)).mono ?_; rintro e w' ⟨rfl, rfl⟩)
    go_round
    case rel =>
     refine ⟨k + 1, by omega, by go_num, fun j hj hjk => ?_⟩
     by_cases e : j = k
     ·subst e; omega
     ·exact hall.out j hj (by omega)
    case measure => simp [intOf]; omega
   ·have hb := jD (bndB_bad (lo := 97) (hi := 122) (lim := 8) hlt (by omega))
    have hg := jD g
    clear g
    go_wp2_with (go_at_call 28; refine (in_no _ _ _ _ (by have := hg.out; omega)).mono ?_; rintro e w' ⟨rfl, rfl⟩)
    go_ret
    exact ⟨by rw [hb.out]; rfl, rfl⟩
  ·have hb : Hid (bndB 97 122 8 s = inB 1 s.size 8) := bndB_len hall.out (by omega)
   go_wp2_with (go_at_call 28; refine (in_any _ _ _ _).mono ?_; rintro e w' ⟨rfl, rfl⟩)
   go_ret
   exact ⟨by rw [hb.out]; rfl, rfl⟩
set_option maxHeartbeats 400000 in
theorem valueMay_any (s : ByteArray) (w : World) (hs : s.size ≤ maxLen) :
  Calls Tryz.prog 83 #[.string s] w fun e w' => e = .returned (.bool (bndB 33 126 20 s)) ∧ w = w' := by
 unfold maxLen at hs
 go_enter Tryz.func83, Tryz.ntmps83
 go_wp2
 go_loop [3] (fun c => ∃ k : Nat, k ≤ s.size ∧ c = .int .i64 k ∧ Hid (∀ j (hj : j < s.size), j < k → 33 ≤ s[j].toNat ∧ s[j].toNat ≤ 126)) (fun c => s.size - (intOf c).toNat)
 case atStart => exact ⟨0, Nat.zero_le _, rfl, fun _ _ h => absurd h (Nat.not_lt_zero _)⟩
 case round =>
  obtain ⟨k, hk, rfl, hall⟩ := hrel
  by_cases hlt : k < s.size
  ·have hby : s[k].toNat < 256 := s[k].toNat_lt
   by_cases g : 33 ≤ s[k].toNat ∧ s[k].toNat ≤ 126
   ·obtain ⟨g1, g2⟩ := g
    go_wp2_with (go_at_call 28; refine (in_yes _ _ _ _ (by omega)).mono ?_; rintro e w' ⟨rfl, rfl⟩)
    go_round
    case rel =>
     refine ⟨k + 1, by omega, by go_num, fun j hj hjk => ?_⟩
     by_cases e : j = k
     ·subst e; omega
     ·exact hall.out j hj (by omega)
    case measure => simp [intOf]; omega
   ·have hb := jD (bndB_bad (lo := 33) (hi := 126) (lim := 20) hlt (by omega))
    have hg := jD g
    clear g
    go_wp2_with (go_at_call 28; refine (in_no _ _ _ _ (by have := hg.out; omega)).mono ?_; rintro e w' ⟨rfl, rfl⟩)
    go_ret
    exact ⟨by rw [hb.out]; rfl, rfl⟩
  ·have hb : Hid (bndB 33 126 20 s = inB 1 s.size 20) := bndB_len hall.out (by omega)
   go_wp2_with (go_at_call 28; refine (in_any _ _ _ _).mono ?_; rintro e w' ⟨rfl, rfl⟩)
   go_ret
   exact ⟨by rw [hb.out]; rfl, rfl⟩
set_option maxHeartbeats 400000 in
theorem upTo_any (s : ByteArray) (w : World) (hs : s.size ≤ maxLen) :
  Calls Tryz.prog 55 #[.string s] w fun e w' => e = .returned (.tuple #[.string (cutA s), .string (cutB s), .bool (cutF s)]) ∧ ∃ n, w' = w.drewN n := by
 unfold maxLen at hs
 go_enter Tryz.func55, Tryz.ntmps55
 go_wp2
 go_loop [5] (fun c => ∃ k : Nat, k ≤ s.size ∧ c = .int .i64 k ∧ Hid (∀ j (hj : j < s.size), j < k → s[j] ≠ 32)) (fun c => s.size - (intOf c).toNat)
 case atStart => exact ⟨0, Nat.zero_le _, rfl, fun _ _ h => absurd h (Nat.not_lt_zero _)⟩
 case round =>
  obtain ⟨k, hk, rfl, hall⟩ := hrel
  by_cases hlt : k < s.size
  ·have hby : s[k].toNat < 256 := s[k].toNat_lt
   by_cases g : s[k] = 32
   ·have hI := cutI_hit hlt g hall.out
    have hA := jD (show cutA s = s.extract 0 k by unfold cutA; rw [hI])
    have hB := jD (show cutB s = s.extract (k + 1) s.size by unfold cutB; rw [hI])
    have hF := jD (show cutF s = true by unfold cutF; rw [hI]; exact decide_eq_true hlt)
    have hg : ((s[k].toNat : Int) == 32) = true := by rw [g]; rfl
    clear hI g
    have c1 : (0 : Int) ≤ (k : Int) := by omega
    have c2 : (k : Int) ≤ (s.size : Int) := by omega
    have c3 : (0 : Int) ≤ (k : Int) + 1 := by omega
    have c4 : (k : Int) + 1 ≤ (s.size : Int) := by omega
    have c5 : IntKind.i64.wrap ((k : Int) + 1) = (k : Int) + 1 := IntWalk.i64_in _ (by omega)
    have c6 : ((k : Int) + 1).toNat = k + 1 := by omega
    go_wp2
    go_quiet (fail)
    go_wp2
    go_ret3
    exact ⟨by rw [hA.out, hB.out, hF.out]; rfl, nq, rfl⟩
   ·have hg : ((s[k].toNat : Int) == 32) = false := by
     rw [beq_eq_false_iff_ne]; intro e; apply g; apply UInt8.toNat_inj.1; show s[k].toNat = 32; omega
    have hG := jD g
    clear g
    go_wp2
    go_round
    case rel =>
     refine ⟨k + 1, by omega, by go_num, fun j hj hjk => ?_⟩
     by_cases e : j = k
     ·subst e; exact hG.out
     ·exact hall.out j hj (by omega)
    case measure => simp [intOf]; omega
  ·have he : cutI s = s.size := cutI_miss (fun j hj => hall.out j hj (by omega))
   have hA := jD (cutA_all he)
   have hB := jD (cutB_none he)
   have hF := jD (show cutF s = false by unfold cutF; rw [he]; simp)
   clear he
   go_wp2
   go_ret3
   exact ⟨by rw [hA.out, hB.out, hF.out]; rfl, 0, rfl⟩
theorem Stm.set0 {w : World} {b : Nat} {k k' : Int} {x y : ByteArray} (h : Stm w b k x y) : Stm (w.setCell ⟨b, 0, none⟩ (.int .i64 k')) b k' x y := by
 obtain ⟨lt, c0, c1, c2, fz⟩ := h
 refine ⟨by simpa using lt, ?_, ?_, ?_, fun i => ?_⟩
 ·simp [go_sem, c0]
 ·simp [go_sem, c1]
 ·simp [go_sem, c2]
 ·simp [go_sem, fz]
theorem Stm.set12 {w : World} {b : Nat} {k : Int} {x y x' y' : ByteArray} (h : Stm w b k x y) : Stm ((w.setCell ⟨b, 1, none⟩ (.string x')).setCell ⟨b, 2, none⟩ (.string y')) b k x' y' := by
 obtain ⟨lt, c0, c1, c2, fz⟩ := h
 refine ⟨by simpa using lt, ?_, ?_, ?_, fun i => ?_⟩
 ·simp [go_sem, c0]
 ·simp [go_sem, c1]
 ·simp [go_sem, c2]
 ·simp [go_sem, fz]
set_option maxHeartbeats 1000000 in
theorem wordOf_any (k : Nat) (w : World) (h1 : 1 ≤ k) (h2 : k ≤ 11) :
  Calls Tryz.prog 56 #[.int .i64 k] w fun e w' => e = .returned (.string (wordAt k)) ∧ Below w.heap.size w w' := by
 obtain rfl | rfl | rfl | rfl | rfl | rfl | rfl | rfl | rfl | rfl | rfl : k = 1 ∨ k = 2 ∨ k = 3 ∨ k = 4 ∨ k = 5 ∨ k = 6 ∨ k = 7 ∨ k = 8 ∨ k = 9 ∨ k = 10 ∨ k = 11 := by omega
 all_goals
  go_enter Tryz.func56, Tryz.ntmps56
  go_wp2
  go_ret
  exact ⟨rfl, (Below.refl _ _).alloc (nL _) _⟩
structure OfSaid (t : ByteArray) : Prop where
 ok : readE t = 0 → ∀ w : World, Calls Tryz.prog 31 #[.string t] w fun e w' => e = .returned (.tuple #[.agg #[.int .i64 (kindN (cutA t)), .string (cutA (cutB t)), .string (cutB (cutB t))], .int .i64 0]) ∧ Below w.heap.size w w'
 no : readE t ≠ 0 → ∀ w : World, Calls Tryz.prog 31 #[.string t] w fun e w' => e = .returned (.tuple #[.agg #[.int .i64 0, .string ⟨#[]⟩, .string ⟨#[]⟩], .int .i64 (readE t)]) ∧ Below w.heap.size w w'
def FaultSaid (k : Int) (key v : ByteArray) : Prop := ∀ w : World, Calls Tryz.prog 57 #[.agg #[.int .i64 k, .string key, .string v]] w fun e w' => e = .returned (.int .i64 (checkE k key v)) ∧ Below w.heap.size w w'
set_option maxHeartbeats 400000 in
theorem fault_kind (k : Int) (key v : ByteArray) (h : k < 1 ∨ 11 < k) : FaultSaid k key v := by
 intro w
 rw [checkE_kind h]
 go_enter Tryz.func57, Tryz.ntmps57
 go_wp2_with fail
 refine (in_no _ _ _ _ (by omega)).mono ?_
 rintro e w1 ⟨rfl, rfl⟩
 go_wp2
 go_ret
 exact ⟨rfl, (Below.refl _ _).alloc (nL _) _⟩
set_option maxHeartbeats 1000000 in
theorem fault_small (k : Int) (key v : ByteArray) (h1 : 1 ≤ k) (h2 : k < 6) : FaultSaid k key v := by
 intro w
 have hkb : keyB k key = key.toList.isEmpty := keyB_no (by omega)
 have hvb : valueB k v = v.toList.isEmpty := by unfold valueB; rw [if_neg (by omega)]; exact plainV_no (by omega)
 have hk : ¬ (k < 1 ∨ 11 < k) := by omega
 cases e1 : key.toList.isEmpty
 ·rw [checkE_key hk (hkb.trans e1)]
  clear hkb hvb hk
  go_enter Tryz.func57, Tryz.ntmps57
  go_wp2_with fail
  refine (in_yes _ _ _ _ (by omega)).mono ?_
  rintro e w1 ⟨rfl, rfl⟩
  go_wp2
  go_ret
  exact ⟨rfl, (Below.refl _ _).alloc (nL _) _⟩
 ·cases e2 : v.toList.isEmpty
  all_goals
   first | rw [checkE_value hk (hvb.trans e2)] | rw [checkE_ok hk (hkb.trans e1) (hvb.trans e2)]
   clear hkb hvb hk
   go_enter Tryz.func57, Tryz.ntmps57
   go_wp2_with fail
   refine (in_yes _ _ _ _ (by omega)).mono ?_
   rintro e w1 ⟨rfl, rfl⟩
   go_wp2
   go_ret
   exact ⟨rfl, (Below.refl _ _).alloc (nL _) _⟩
set_option maxHeartbeats 1000000 in
theorem fault_name (k : Int) (key v : ByteArray) (hs : key.size ≤ maxLen) (h1 : 6 ≤ k) (h2 : k ≤ 11) (h : bndB 97 122 8 key = false) : FaultSaid k key v := by
 intro w
 rw [checkE_key (by omega) ((keyB_yes ⟨h1, h2⟩).trans h)]
 have H := jD h
 clear h
 go_enter Tryz.func57, Tryz.ntmps57
 go_wp2_with fail
 refine (in_yes _ _ _ _ (by omega)).mono ?_
 rintro e w1 ⟨rfl, rfl⟩
 go_wp2_with fail
 refine (nameMay_any key _ hs).mono ?_
 rw [H.out]
 rintro e w2 ⟨rfl, rfl⟩
 go_wp2
 go_ret
 exact ⟨rfl, (Below.refl _ _).alloc (nL _) _⟩
set_option maxHeartbeats 1000000 in
theorem fault_get (k : Int) (key v : ByteArray) (hs : key.size ≤ maxLen) (hk : k = 6 ∨ k = 7 ∨ k = 8) (h : bndB 97 122 8 key = true) : FaultSaid k key v := by
 intro w
 have hkb : keyB k key = true := (keyB_yes (by omega)).trans h
 have hvb : valueB k v = v.toList.isEmpty := by unfold valueB; rw [if_neg (by omega)]; exact plainV_no (by omega)
 have hn : ¬ (k < 1 ∨ 11 < k) := by omega
 have H := jD h
 clear h
 cases e2 : v.toList.isEmpty
 all_goals
  first | rw [checkE_value hn (hvb.trans e2)] | rw [checkE_ok hn hkb (hvb.trans e2)]
  clear hkb hvb hn
  rcases hk with rfl | rfl | rfl
  all_goals
   go_enter Tryz.func57, Tryz.ntmps57
   go_wp2_with fail
   refine (in_yes _ _ _ _ (by omega)).mono ?_
   rintro e w1 ⟨rfl, rfl⟩
   go_wp2_with fail
   refine (nameMay_any key _ hs).mono ?_
   rw [H.out]
   rintro e w2 ⟨rfl, rfl⟩
   go_wp2
   go_ret
   exact ⟨rfl, (Below.refl _ _).alloc (nL _) _⟩
set_option maxHeartbeats 1000000 in
theorem fault_set (k : Int) (key v : ByteArray) (hs : key.size ≤ maxLen) (hv : v.size ≤ maxLen) (hk : k = 9 ∨ k = 10) (h : bndB 97 122 8 key = true) : FaultSaid k key v := by
 intro w
 have hkb : keyB k key = true := (keyB_yes (by omega)).trans h
 have hvb : valueB k v = bndB 33 126 20 v := by unfold valueB; rw [if_neg (by omega)]; exact plainV_yes hk
 have hn : ¬ (k < 1 ∨ 11 < k) := by omega
 have H := jD h
 clear h
 cases e2 : bndB 33 126 20 v
 all_goals
  first | rw [checkE_value hn (hvb.trans e2)] | rw [checkE_ok hn hkb (hvb.trans e2)]
  clear hkb hvb hn
  have E2 := jD e2
  clear e2
  rcases hk with rfl | rfl
  all_goals
   go_enter Tryz.func57, Tryz.ntmps57
   go_wp2_with fail
   refine (in_yes _ _ _ _ (by omega)).mono ?_
   rintro e w1 ⟨rfl, rfl⟩
   go_wp2_with fail
   refine (nameMay_any key _ hs).mono ?_
   rw [H.out]
   rintro e w2 ⟨rfl, rfl⟩
   go_wp2_with fail
   refine (valueMay_any v _ hv).mono ?_
   rw [E2.out]
   rintro e w3 ⟨rfl, rfl⟩
   go_wp2
   go_ret
   exact ⟨rfl, (Below.refl _ _).alloc (nL _) _⟩
set_option maxHeartbeats 1000000 in
theorem fault_prep (key v : ByteArray) (hs : key.size ≤ maxLen) (hO : OfSaid v) (h : bndB 97 122 8 key = true) : FaultSaid 11 key v := by
 intro w
 have hkb : keyB 11 key = true := (keyB_yes (by omega)).trans h
 have hvb : valueB 11 v = prepB v := rfl
 have hn : ¬ ((11 : Int) < 1 ∨ 11 < (11 : Int)) := by omega
 have H := jD h
 clear h
 rw [prepB_read] at hvb
 by_cases hr : readE v = 0
 ·have hO1 := jD (hO.ok hr)
  clear hO
  rw [decide_eq_true hr, Bool.true_and] at hvb
  generalize cutA (cutB v) = key2 at *
  generalize cutB (cutB v) = v2 at *
  generalize kindN (cutA v) = k2 at *
  by_cases hk : k2 = 6 ∨ k2 = 7 ∨ k2 = 10
  ·rw [checkE_ok hn hkb (by rw [hvb]; exact decide_eq_true hk)]
   clear hkb hvb hn hr
   rcases hk with rfl | rfl | rfl
   ·go_enter Tryz.func57, Tryz.ntmps57
    go_wp2_with fail
    refine (in_yes _ _ _ _ (by omega)).mono ?_
    rintro e w1 ⟨rfl, rfl⟩
    go_wp2_with fail
    refine (nameMay_any key _ hs).mono ?_
    rw [H.out]
    rintro e w2 ⟨rfl, rfl⟩
    go_wp2_with fail
    refine (hO1.out _).mono ?_
    rintro e w3 ⟨rfl, hb⟩
    go_wp2_with fail
    refine (in_yes _ _ _ _ (by omega)).mono ?_
    rintro e w4 ⟨rfl, rfl⟩
    go_wp2
    go_ret
    exact ⟨rfl, (bel_trans ((Below.refl _ _).alloc (nL _) _) hb).alloc (bel_trans ((Below.refl _ _).alloc (nL _) _) hb).size _⟩
   ·go_enter Tryz.func57, Tryz.ntmps57
    go_wp2_with fail
    refine (in_yes _ _ _ _ (by omega)).mono ?_
    rintro e w1 ⟨rfl, rfl⟩
    go_wp2_with fail
    refine (nameMay_any key _ hs).mono ?_
    rw [H.out]
    rintro e w2 ⟨rfl, rfl⟩
    go_wp2_with fail
    refine (hO1.out _).mono ?_
    rintro e w3 ⟨rfl, hb⟩
    go_wp2_with fail
    refine (in_yes _ _ _ _ (by omega)).mono ?_
    rintro e w4 ⟨rfl, rfl⟩
    go_wp2
    go_ret
    exact ⟨rfl, (bel_trans ((Below.refl _ _).alloc (nL _) _) hb).alloc (bel_trans ((Below.refl _ _).alloc (nL _) _) hb).size _⟩
   ·go_enter Tryz.func57, Tryz.ntmps57
    go_wp2_with fail
    refine (in_yes _ _ _ _ (by omega)).mono ?_
    rintro e w1 ⟨rfl, rfl⟩
    go_wp2_with fail
    refine (nameMay_any key _ hs).mono ?_
    rw [H.out]
    rintro e w2 ⟨rfl, rfl⟩
    go_wp2_with fail
    refine (hO1.out _).mono ?_
    rintro e w3 ⟨rfl, hb⟩
    go_wp2_with fail
    refine (in_no _ _ _ _ (by omega)).mono ?_
    rintro e w4 ⟨rfl, rfl⟩
    go_wp2
    go_ret
    exact ⟨rfl, (bel_trans ((Below.refl _ _).alloc (nL _) _) hb).alloc (bel_trans ((Below.refl _ _).alloc (nL _) _) hb).size _⟩
  ·rw [checkE_value hn (by rw [hvb]; exact decide_eq_false hk)]
   clear hkb hvb hn hr
   have h10 : ((k2 : Int) != 10) = true := bne_iff_ne.2 (by omega)
   have HK := jD hk
   clear hk
   ·go_enter Tryz.func57, Tryz.ntmps57
    go_wp2_with fail
    refine (in_yes _ _ _ _ (by omega)).mono ?_
    rintro e w1 ⟨rfl, rfl⟩
    go_wp2_with fail
    refine (nameMay_any key _ hs).mono ?_
    rw [H.out]
    rintro e w2 ⟨rfl, rfl⟩
    go_wp2_with fail
    refine (hO1.out _).mono ?_
    rintro e w3 ⟨rfl, hb⟩
    go_wp2_with fail
    refine (in_no _ _ _ _ (by have := HK.out; omega)).mono ?_
    rintro e w4 ⟨rfl, rfl⟩
    go_wp2
    go_ret
    exact ⟨rfl, (bel_trans ((Below.refl _ _).alloc (nL _) _) hb).alloc (bel_trans ((Below.refl _ _).alloc (nL _) _) hb).size _⟩
 ·have hO1 := jD (hO.no hr)
  clear hO
  rw [decide_eq_false hr, Bool.false_and] at hvb
  rw [checkE_value hn hvb]
  clear hkb hvb hn
  have hne : (readE v != 0) = true := bne_iff_ne.2 hr
  generalize readE v = e0 at *
  clear hr
  ·go_enter Tryz.func57, Tryz.ntmps57
   go_wp2_with fail
   refine (in_yes _ _ _ _ (by omega)).mono ?_
   rintro e w1 ⟨rfl, rfl⟩
   go_wp2_with fail
   refine (nameMay_any key _ hs).mono ?_
   rw [H.out]
   rintro e w2 ⟨rfl, rfl⟩
   go_wp2_with fail
   refine (hO1.out _).mono ?_
   rintro e w3 ⟨rfl, hb⟩
   go_wp2
   go_ret
   exact ⟨rfl, (bel_trans ((Below.refl _ _).alloc (nL _) _) hb).alloc (bel_trans ((Below.refl _ _).alloc (nL _) _) hb).size _⟩
theorem fault_of (k : Int) (key v : ByteArray) (hs : key.size ≤ maxLen) (hv : v.size ≤ maxLen) (hO : OfSaid v) : FaultSaid k key v := by
 by_cases h : k < 1 ∨ 11 < k
 ·exact fault_kind k key v h
 ·by_cases h6 : k < 6
  ·exact fault_small k key v (by omega) h6
  ·cases hn : bndB 97 122 8 key
   ·exact fault_name k key v hs (by omega) (by omega) hn
   ·by_cases h8 : k ≤ 8
    ·exact fault_get k key v hs (by omega) hn
    ·by_cases h10 : k ≤ 10
     ·exact fault_set k key v hs hv (by omega) hn
     ·obtain rfl : k = 11 := by omega
      exact fault_prep key v hs hO hn
end Go.Proofs.YtpbaobmegomfpabGreatDoor
