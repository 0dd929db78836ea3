/-
  Walks of the reference's lists: plus, Pairs.
-/
import Derived.Test.YtpbaobmegomfpaaDoorWld
import Derived.Test.YtpbaobmegomfpaaDoorBackM2
import Derived.Test.YtpbaobmegomfpaaDoorRows
import Derived.Maps.AppendAt
import Derived.OwnWalk
import Derived.WalkSmall
import Derived.Deep.QuietTactic
import Derived.BigQuiet
namespace Go.Proofs.YtpbaobmegomfpaaDoor
open Go.RowKit
set_option linter.unusedVariables false
set_option maxRecDepth 100000

theorem pair_row : (Tryd.prog.info? 81).map (fun i => (i.zero, i.size, i.bytes)) = some (some (.agg #[.string ⟨#[]⟩, .string ⟨#[]⟩]), 2, 32) := by kernel_rfl
theorem cell_pair_new (w : World) (a b : ByteArray) (t : TypeId) : ∀ j u, ([.string a, .string b] : List Value)[j]? = some u → (w.alloc (.cells #[.string a, .string b] t)).cell? ((⟨w.heap.size, 0, none⟩ : Addr).add j) = some u := by
  intro j u h
  rw [Addr.add_lit, Nat.zero_add, World.cell?_alloc_at _ _ _ _ rfl]
  simpa using h
theorem pair_one (a b : ByteArray) : ∀ u ∈ ([.string a, .string b] : List Value), u.oneCell' = true := by
  intro u hu
  simp only [List.mem_cons, List.not_mem_nil, or_false] at hu
  rcases hu with rfl | rfl <;> rfl
theorem grow_bel {B : Nat} {w wr w1 : World} {o : Obj} {e : TypeId} {s n : Nat} {v : Value} {xs : List Value} (hb : Below B w wr) (hg : (wr.alloc o).grownBy w1 v.ownBlock) (hw : wr.ownsRow B e s v n xs) (hB : B ≤ w.heap.size := by exact Nat.le_refl _) : Below B w w1 := by
  have h1 := hb.alloc (Nat.le_trans hB hb.size) o
  refine h1.grown hg (by have := h1.size; omega) (fun k hk => (hw.lt k hk).1)
section
variable {l out : PL} {key val : ByteArray} {k : Nat} {p : ByteArray × ByteArray} {r : PL}
theorem plus_both (h : out ++ plusGo key val false (l.drop k) = plusL l key val) (hd : l.drop k = p :: r) (hq : ltB p.1 key = false) (he : eqB p.1 key = false) : out ++ [(key, val)] ++ [p] ++ plusGo key val true r = plusL l key val := by
  rw [← h, hd, plusGo, hq, he]; simp
theorem plus_first (h : out ++ plusGo key val false (l.drop k) = plusL l key val) (hd : l.drop k = p :: r) (hq : ltB p.1 key = false) (he : eqB p.1 key = true) : out ++ [(key, val)] ++ plusGo key val true r = plusL l key val := by
  rw [← h, hd, plusGo, hq, he]; simp
theorem plus_less (h : out ++ plusGo key val false (l.drop k) = plusL l key val) (hd : l.drop k = p :: r) (hq : ltB p.1 key = true) : out ++ [p] ++ plusGo key val false r = plusL l key val := by
  rw [← h, hd, plusGo, hq, eqB_false.2 (ltB_ne hq)]; simp
theorem plus_rest (h : out ++ plusGo key val true (l.drop k) = plusL l key val) (hd : l.drop k = p :: r) (he : eqB p.1 key = false) : out ++ [p] ++ plusGo key val true r = plusL l key val := by
  rw [← h, hd, plusGo, he]; simp
theorem plus_skip (h : out ++ plusGo key val true (l.drop k) = plusL l key val) (hd : l.drop k = p :: r) (he : eqB p.1 key = true) : out ++ plusGo key val true r = plusL l key val := by
  rw [← h, hd, plusGo, he]; simp
theorem plus_endF (h : out ++ plusGo key val false (l.drop k) = plusL l key val) (hd : l.drop k = []) : out ++ [(key, val)] = plusL l key val := by
  rw [← h, hd, plusGo]; rfl
theorem plus_endT (h : out ++ plusGo key val true (l.drop k) = plusL l key val) (hd : l.drop k = []) : out = plusL l key val := by
  rw [← h, hd, plusGo]; simp
end
def PlusRel (w : World) (l : PL) (key val : ByteArray) (n : Nat) (v : Value) (d : Bool) (wr : World) : Prop :=
  ∃ out, out ++ plusGo key val d (l.drop n) = plusL l key val ∧ out.length ≤ n + d.toNat ∧ wr.ownsRow w.heap.size 81 2 v out.length (flat out) ∧ Below w.heap.size w wr

set_option maxHeartbeats 1000000 in
theorem plus_any (v : Value) (l : PL) (key val : ByteArray) (w : World) (hl : Lst w w.heap.size v l) :
    Calls Tryd.prog 61 #[v, .string key, .string val] w fun e w' => ∃ v', e = .returned v' ∧ w'.ownsRow w.heap.size 81 2 v' (plusL l key val).length (flat (plusL l key val)) ∧ Below w.heap.size w w' := by
  obtain ⟨A, c, rfl, hc⟩ := hl.form
  have hby := hl.bytes
  have HL := Lib.hid hl
  clear hl
  obtain ⟨i0, hi, hz0, hz1, hz2⟩ := info_parts pair_row
  have HI := Lib.hid (And.intro hi (And.intro hz0 (And.intro hz1 hz2)))
  clear hi hz0 hz1 hz2
  go_enter Tryd.func61, Tryd.ntmps61
  go_wp2
  go_loopw [7, 8, 9] (fun o d i wr => ∃ (k : Nat) (b : Bool), k ≤ l.length ∧ i = .int .i64 k ∧ d = .bool b ∧ PlusRel w l key val k o b wr) (fun _ _ i _ => l.length - (intOf i).toNat)
  case atStart => exact ⟨0, false, by omega, rfl, rfl, [], rfl, by simp, World.ownsRow_nil _ _ _ _, Below.refl _ _⟩
  case round =>
    obtain ⟨k, d, hk, rfl, rfl, out, hout, hol, hown, bel⟩ := hrel
    by_cases hlt : k < l.length
    · obtain ⟨b, off, rfl, hb, c0, c1⟩ := HL.out.pt hlt
      have d0 := (bel.cell (p := ⟨b, off + k * 2, none⟩) hb).trans c0
      have d1 := (bel.cell (p := ⟨b, off + k * 2 + 1, none⟩) hb).trans c1
      have hbw : b < wr.heap.size := Nat.lt_of_lt_of_le hb bel.size
      have HO := Lib.hid hout
      have HW := Lib.hid hown
      have HB := Lib.hid bel
      clear hout hown bel
      have HD := Lib.hid (List.drop_eq_getElem_cons hlt)
      have hsz := HB.out.size
      cases d <;> simp only [Bool.toNat_false, Bool.toNat_true] at hol
      · cases hq : ltB l[k].1 key
        · have hge : binOp .geq 9 (.string l[k].1) (.string key) = pure (.bool true) := by unfold ltB at hq; simp [binOp, Op.stringOp, hq]
          cases he : eqB l[k].1 key
          · have HP := Lib.hid (plus_both HO.out HD.out hq he)
            unfold eqB at he
            clear hq
            go_wp2_with (first | (at_builtin; refine wpList_append_own_at _ rfl _ _ 46 rfl w.heap.size 81 i0 _ 2 32 Tryd.underlying46 HI.out.1 HI.out.2.1 HI.out.2.2.1 HI.out.2.2.2 rfl (by decide) _ _ _ rfl (HW1.out.alloc _) ⟨w1.heap.size, 0, none⟩ 1 1 [.string l[k].1, .string l[k].2] rfl rfl (cell_pair_new _ _ _ _) (pair_one _ _) (by unfold maxLen; omega) (by omega) (by simp; omega) ?_; intro v2 w2 ho2 hg2 _ _) | (at_builtin; refine wpList_append_own_at _ rfl _ _ 46 rfl w.heap.size 81 i0 _ 2 32 Tryd.underlying46 HI.out.1 HI.out.2.1 HI.out.2.2.1 HI.out.2.2.2 rfl (by decide) _ _ _ rfl (HW.out.alloc _) ⟨wr.heap.size, 0, none⟩ 1 1 [.string key, .string val] rfl rfl (cell_pair_new _ _ _ _) (pair_one _ _) (by unfold maxLen; omega) (by omega) (by simp; omega) ?_; intro v1 w1 ho1 hg1 _ _; have HW1 := Lib.hid ho1; have HB1 := Lib.hid (grow_bel HB.out hg1 HW.out); have hsz1 := HB1.out.size; have e0 := (HB1.out.cell (p := ⟨b, off + k * 2, none⟩) hb).trans c0; have e1 := (HB1.out.cell (p := ⟨b, off + k * 2 + 1, none⟩) hb).trans c1; have hbw1 : b < w1.heap.size := Nat.lt_of_lt_of_le hb hsz1))
            go_roundw
            case rel => exact ⟨k + 1, true, by omega, by go_num, rfl, out ++ [(key, val)] ++ [l[k]], HP.out, by simp [Bool.toNat]; omega, by have := ho2; rw [flat_append, flat_append, List.length_append, List.length_append]; exact this, grow_bel HB1.out hg2 HW1.out⟩
            case measure => simp [intOf]; omega
          · have HP := Lib.hid (plus_first HO.out HD.out hq he)
            unfold eqB at he
            clear hq
            go_wp2_with (at_builtin; refine wpList_append_own_at _ rfl _ _ 46 rfl w.heap.size 81 i0 _ 2 32 Tryd.underlying46 HI.out.1 HI.out.2.1 HI.out.2.2.1 HI.out.2.2.2 rfl (by decide) _ _ _ rfl (HW.out.alloc _) ⟨wr.heap.size, 0, none⟩ 1 1 [.string key, .string val] rfl rfl (cell_pair_new _ _ _ _) (pair_one _ _) (by unfold maxLen; omega) (by omega) (by simp; omega) ?_; intro v1 w1 ho1 hg1 _ _; have HW1 := Lib.hid ho1; have HB1 := Lib.hid (grow_bel HB.out hg1 HW.out); have hsz1 := HB1.out.size; have e0 := (HB1.out.cell (p := ⟨b, off + k * 2, none⟩) hb).trans c0; have e1 := (HB1.out.cell (p := ⟨b, off + k * 2 + 1, none⟩) hb).trans c1; have hbw1 : b < w1.heap.size := Nat.lt_of_lt_of_le hb hsz1)
            go_roundw
            case rel => exact ⟨k + 1, true, by omega, by go_num, rfl, out ++ [(key, val)], HP.out, by simp [Bool.toNat]; omega, by have := ho1; rw [flat_append, List.length_append]; exact this, HB1.out⟩
            case measure => simp [intOf]; omega
        · have hge : binOp .geq 9 (.string l[k].1) (.string key) = pure (.bool false) := by unfold ltB at hq; simp [binOp, Op.stringOp, hq]
          have he : eqB l[k].1 key = false := eqB_false.2 (ltB_ne hq)
          have HP := Lib.hid (plus_less HO.out HD.out hq)
          unfold eqB at he
          clear hq
          go_wp2_with (at_builtin; refine wpList_append_own_at _ rfl _ _ 46 rfl w.heap.size 81 i0 _ 2 32 Tryd.underlying46 HI.out.1 HI.out.2.1 HI.out.2.2.1 HI.out.2.2.2 rfl (by decide) _ _ _ rfl (HW.out.alloc _) ⟨wr.heap.size, 0, none⟩ 1 1 [.string l[k].1, .string l[k].2] rfl rfl (cell_pair_new _ _ _ _) (pair_one _ _) (by unfold maxLen; omega) (by omega) (by simp; omega) ?_; intro v2 w2 ho2 hg2 _ _)
          go_roundw
          case rel => exact ⟨k + 1, false, by omega, by go_num, rfl, out ++ [l[k]], HP.out, by simp [Bool.toNat]; omega, by have := ho2; rw [flat_append, List.length_append]; exact this, grow_bel HB.out hg2 HW.out⟩
          case measure => simp [intOf]; omega
      · cases he : eqB l[k].1 key
        · have HP := Lib.hid (plus_rest HO.out HD.out he)
          unfold eqB at he
          go_wp2_with (at_builtin; refine wpList_append_own_at _ rfl _ _ 46 rfl w.heap.size 81 i0 _ 2 32 Tryd.underlying46 HI.out.1 HI.out.2.1 HI.out.2.2.1 HI.out.2.2.2 rfl (by decide) _ _ _ rfl (HW.out.alloc _) ⟨wr.heap.size, 0, none⟩ 1 1 [.string l[k].1, .string l[k].2] rfl rfl (cell_pair_new _ _ _ _) (pair_one _ _) (by unfold maxLen; omega) (by omega) (by simp; omega) ?_; intro v2 w2 ho2 hg2 _ _)
          go_roundw
          case rel => exact ⟨k + 1, true, by omega, by go_num, rfl, out ++ [l[k]], HP.out, by simp [Bool.toNat]; omega, by have := ho2; rw [flat_append, List.length_append]; exact this, grow_bel HB.out hg2 HW.out⟩
          case measure => simp [intOf]; omega
        · have HP := Lib.hid (plus_skip HO.out HD.out he)
          unfold eqB at he
          go_wp2
          go_roundw
          case rel => exact ⟨k + 1, true, by omega, by go_num, rfl, out, HP.out, by simp only [Bool.toNat_true]; omega, HW.out, HB.out⟩
          case measure => simp [intOf]; omega
    · have hnil : l.drop k = [] := List.drop_eq_nil_of_le (by omega)
      have HN := Lib.hid hnil
      have HO := Lib.hid hout
      have HW := Lib.hid hown
      have HB := Lib.hid bel
      have hsz := bel.size
      clear hout hown bel hnil
      cases d <;> simp only [Bool.toNat_false, Bool.toNat_true] at hol
      · have HE := Lib.hid (plus_endF HO.out HN.out)
        go_wp2_with (at_builtin; refine wpList_append_own_at _ rfl _ _ 46 rfl w.heap.size 81 i0 _ 2 32 Tryd.underlying46 HI.out.1 HI.out.2.1 HI.out.2.2.1 HI.out.2.2.2 rfl (by decide) _ _ _ rfl (HW.out.alloc _) ⟨wr.heap.size, 0, none⟩ 1 1 [.string key, .string val] rfl rfl (cell_pair_new _ _ _ _) (pair_one _ _) (by unfold maxLen; omega) (by omega) (by simp; omega) ?_; intro v1 w1 ho1 hg1 _ _)
        go_ret
        refine ⟨_, rfl, ?_, grow_bel HB.out hg1 HW.out⟩
        rw [← HE.out, flat_append, List.length_append]
        exact ho1
      · have HE := Lib.hid (plus_endT HO.out HN.out)
        go_wp2
        go_ret
        refine ⟨_, rfl, ?_, HB.out⟩
        rw [← HE.out]
        exact HW.out

set_option maxHeartbeats 400000 in
theorem pairs_any (v : Value) (l : PL) (w : World) (hl : Lst w w.heap.size v l) :
    Calls Tryd.prog 60 #[v] w fun e w' => ∃ v', e = .returned v' ∧ w'.ownsRow w.heap.size 81 2 v' l.length (flat l) ∧ Below w.heap.size w w' := by
  obtain ⟨A, c, rfl, hc⟩ := hl.form
  have hby := hl.bytes
  obtain ⟨i0, hi, hz0, hz1, hz2⟩ := info_parts pair_row
  have HI := Lib.hid (And.intro hi (And.intro hz0 (And.intro hz1 hz2)))
  clear hi hz0 hz1 hz2
  have hn : Hid (w.ownsRow w.heap.size 81 2 (.slice none 0 0) 0 []) := World.ownsRow_nil _ _ _ _
  cases A with
  | none =>
    have h0 : l.length = 0 := by
      by_cases h : 0 < l.length
      · obtain ⟨b, off, c', e, _⟩ := hl.cells h
        cases e
      · omega
    have hl0 : l = [] := List.length_eq_zero_iff.1 h0
    obtain rfl : c = 0 := hl.nil _ _ rfl
    subst hl0
    clear hl h0
    go_enter Tryd.func60, Tryd.ntmps60
    go_wp2_with (at_builtin; refine wpList_append_own_none rfl _ _ 46 rfl w.heap.size 81 i0 2 Tryd.underlying46 HI.out.1 _ _ _ rfl hn.out rfl ?_)
    go_ret
    exact ⟨_, rfl, World.ownsRow_nil _ _ _ _, Below.refl _ _⟩
  | some ad =>
    have HL := Lib.hid hl
    have HF := Lib.hid (flat_length l)
    clear hl
    go_enter Tryd.func60, Tryd.ntmps60
    go_wp2_with (at_builtin; refine wpList_append_own_at _ rfl _ _ 46 rfl w.heap.size 81 i0 _ 2 32 Tryd.underlying46 HI.out.1 HI.out.2.1 HI.out.2.2.1 HI.out.2.2.2 rfl (by decide) _ _ _ rfl hn.out ad l.length c (flat l) rfl HF.out HL.out.flat_cells (flat_one l) (by unfold maxLen; omega) (by omega) (Nat.le_refl _) ?_; intro v1 w1 ho1 hg1 _ _)
    go_ret
    rw [Nat.zero_add, List.nil_append] at ho1
    exact ⟨_, rfl, ho1, (Below.refl _ _).grown hg1 (Nat.le_refl _) (fun k hk => by cases hk)⟩
end Go.Proofs.YtpbaobmegomfpaaDoor
