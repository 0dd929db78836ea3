/-
  Walks of back.listFits and of the reference's pairsMay.
-/
import Derived.Test.YtpbaobmegomfpaaDoorWld
import Derived.Test.YtpbaobmegomfpaaDoorBackM2
import Derived.Test.YtpbaobmegomfpaaDoorSay10
import Derived.Deep.QuietTactic
import Derived.BigQuiet
import Derived.IntWalk
import Derived.WalkSmall
import Derived.Deep.RegionHeld3
import Derived.Deep.RegionWith
namespace Go.Proofs.YtpbaobmegomfpaaDoor
open Go.RowKit
set_option linter.unusedVariables false
set_option maxRecDepth 100000

/-- the first k pairs are as they should be -/
def GoodTo (l : PL) (kind : Int) (k : Nat) : Prop := (∀ j (h : j < l.length), j < k → checkE kind l[j].1 l[j].2 = 0) ∧ ∀ j (h : j + 1 < l.length), j + 1 < k → ltB l[j].1 l[j + 1].1 = true
theorem GoodTo.zero {l : PL} {kind : Int} {k : Nat} (h : GoodTo l kind k) (hk : k = 0) {hlt : k < l.length} (hc : checkE kind l[k].1 l[k].2 = 0) : GoodTo l kind (k + 1) := by
  subst hk
  refine ⟨fun j hj hjk => ?_, fun j hj hjk => by omega⟩
  obtain rfl : j = 0 := by omega
  exact hc
theorem GoodTo.succ {l : PL} {kind : Int} {k : Nat} (h : GoodTo l kind k) (hk : k ≠ 0) {hlt : k < l.length} (hc : checkE kind l[k].1 l[k].2 = 0) (hq : ltB l[k - 1].1 l[k].1 = true) : GoodTo l kind (k + 1) := by
  refine ⟨fun j hj hjk => ?_, fun j hj hjk => ?_⟩
  · by_cases e : j = k
    · subst e; exact hc
    · exact h.1 j hj (by omega)
  · by_cases e : j + 1 = k
    · subst e; exact hq
    · exact h.2 j hj (by omega)
theorem GoodTo.all {l : PL} {kind : Int} {k most : Nat} (h : GoodTo l kind k) (hk : l.length ≤ k) (hm : l.length ≤ most) : pairsB l most kind = true :=
  pairsB_yes (fun j hj => h.1 j hj (by omega)) (fun j hj => h.2 j hj (by omega)) hm
theorem GoodTo.long {l : PL} {kind : Int} {k most : Nat} (h : GoodTo l kind k) (hk : l.length ≤ k) : pairsB l most kind = decide (l.length ≤ most) := by
  by_cases hm : l.length ≤ most
  · rw [h.all hk hm, decide_eq_true hm]
  · rw [pairsB_long hm, decide_eq_false hm]
theorem pairsB_fall' {l : PL} {most : Nat} {kind : Int} {k : Nat} (hk : k < l.length) (h0 : k ≠ 0) (h : ltB l[k - 1].1 l[k].1 = false) : pairsB l most kind = false := by
  obtain ⟨j, rfl⟩ : ∃ j, k = j + 1 := ⟨k - 1, by omega⟩
  exact pairsB_fall hk h
theorem leB_yes {a b : ByteArray} (h : ltB b a = false) : (Op.bytesLess a.toList b.toList || a.toList == b.toList) = true := by
  cases h1 : ltB a b
  · have := ltB_total h h1
    subst this
    simp
  · unfold ltB at h1; rw [h1]; rfl
theorem leB_no {a b : ByteArray} (h : ltB b a = true) : Op.bytesLess a.toList b.toList = false ∧ (a.toList == b.toList) = false :=
  ⟨ltB_asymm h, eqB_false.2 (fun e => ltB_ne h e.symm)⟩
def FitRel (w : World) (l : PL) (kind : Int) (k : Nat) (wr : World) : Prop := GoodTo l kind k ∧ Below w.heap.size w wr

set_option maxHeartbeats 1000000 in
theorem listFits_any (v : Value) (l : PL) (kind : Int) (limit : Nat) (w : World) (hl : Lst w w.heap.size v l) (hW : Words w) (hlim : limit ≤ 1000) :
    Calls Tryd.prog 40 #[v, .int .i64 kind, .int .i64 limit] w fun e w' => e = .returned (.bool (pairsB l limit kind)) ∧ Below w.heap.size w w' := by
  obtain ⟨A, c, rfl, hc⟩ := hl.form
  have hby := hl.bytes
  have HL := Lib.hid hl
  have HW := Lib.hid hW
  clear hl hW
  by_cases hlen : l.length ≤ limit
  · have hd : decide ((limit : Int) < (l.length : Int)) = false := decide_eq_false (by omega)
    have hd' : decide (limit < l.length) = false := decide_eq_false (by omega)
    go_enter Tryd.func40, Tryd.ntmps40
    go_wp2
    go_loopw [15] (fun i wr => ∃ k : Nat, k ≤ l.length ∧ i = .int .i64 k ∧ FitRel w l kind k wr) (fun i _ => l.length - (intOf i).toNat)
    case atStart => exact ⟨0, by omega, rfl, ⟨fun j _ h => by omega, fun j _ h => by omega⟩, Below.refl _ _⟩
    case round =>
      obtain ⟨k, hk, rfl, good, bel⟩ := hrel
      by_cases hlt : k < l.length
      · obtain ⟨b, off, rfl, hb, c0, c1⟩ := HL.out.pt hlt
        obtain ⟨z0, z1⟩ := HL.out.key hlt
        have d0 := (bel.cell (p := ⟨b, off + k * 2, none⟩) hb).trans c0
        have d1 := (bel.cell (p := ⟨b, off + k * 2 + 1, none⟩) hb).trans c1
        have hbw : b < wr.heap.size := Nat.lt_of_lt_of_le hb bel.size
        have HG := Lib.hid good
        have HB := Lib.hid bel
        clear good bel c0 c1
        by_cases hk0 : k = 0
        · have g0 : decide ((0 : Int) < (k : Int)) = false := decide_eq_false (by omega)
          have g1 : decide (0 < k) = false := decide_eq_false (by omega)
          have HK := Lib.hid hk0
          clear hk0
          go_wp2
          go_quiet (fail)
          go_wp2_with fail
          have B1 := below_drewN (HB.out.alloc HB.out.size (.cells #[.string l[k].1, .string l[k].2] 81)) nq
          by_cases hce : checkE kind l[k].1 l[k].2 = 0
          · have HC := Lib.hid hce
            clear hce
            refine (check_any kind l[k].1 l[k].2 _ (by unfold maxLen; omega) (by unfold maxLen; omega) (HW.out.below B1)).mono ?_
            rw [HC.out]
            rintro e w2 ⟨rfl, hb2⟩
            go_wp2
            go_roundw
            case rel => exact ⟨k + 1, by omega, by go_num, HG.out.zero HK.out HC.out, bel_trans B1 hb2⟩
            case measure => simp [intOf]; omega
          · have HP := Lib.hid (pairsB_bad (most := limit) hlt hce)
            have hne : (checkE kind l[k].1 l[k].2 != 0) = true := bne_iff_ne.2 hce
            clear hce
            refine (check_any kind l[k].1 l[k].2 _ (by unfold maxLen; omega) (by unfold maxLen; omega) (HW.out.below B1)).mono ?_
            rintro e w2 ⟨rfl, hb2⟩
            go_wp2
            go_ret
            exact ⟨by rw [HP.out]; rfl, bel_trans B1 hb2⟩
        · obtain ⟨b', off', e', _, c0', _⟩ := HL.out.pt (k := k - 1) (by omega)
          obtain ⟨rfl, rfl⟩ : b = b' ∧ off = off' := by injection e' with e'; injection e' with e1 e2; exact ⟨e1, e2⟩
          clear e'
          have d0' := (HB.out.cell (p := ⟨b, off + (k - 1) * 2, none⟩) hb).trans c0'
          have g0 : decide ((0 : Int) < (k : Int)) = true := decide_eq_true (by omega)
          have g1 : decide (0 < k) = true := decide_eq_true (by omega)
          have q1 : IntKind.i64.wrap ((k : Int) - 1) = (k : Int) - 1 := IntWalk.i64_in _ (by omega)
          have q2 : ((k : Int) - 1).toNat = k - 1 := by omega
          have q3 : (0 : Int) ≤ (k : Int) - 1 := by omega
          have q4 : (1 : Int) ≤ (k : Int) := by omega
          have q5 : (k : Int) - 1 < (l.length : Int) := by omega
          clear c0'
          cases hq : ltB l[k - 1].1 l[k].1
          · have HP := Lib.hid (pairsB_fall' (most := limit) (kind := kind) hlt hk0 hq)
            have e1 := leB_yes hq
            clear hq
            go_wp2
            go_quiet (fail)
            go_wp2
            go_ret
            exact ⟨by rw [HP.out]; rfl, below_drewN (HB.out.alloc HB.out.size _) nq⟩
          obtain ⟨e1, e2⟩ := leB_no hq
          have HQ := Lib.hid hq
          clear hq
          go_wp2
          go_quiet (fail)
          go_wp2_with fail
          have B1 := below_drewN (HB.out.alloc HB.out.size (.cells #[.string l[k].1, .string l[k].2] 81)) nq
          by_cases hce : checkE kind l[k].1 l[k].2 = 0
          · have HC := Lib.hid hce
            clear hce
            refine (check_any kind l[k].1 l[k].2 _ (by unfold maxLen; omega) (by unfold maxLen; omega) (HW.out.below B1)).mono ?_
            rw [HC.out]
            rintro e w2 ⟨rfl, hb2⟩
            go_wp2
            go_roundw
            case rel => exact ⟨k + 1, by omega, by go_num, HG.out.succ hk0 HC.out HQ.out, bel_trans B1 hb2⟩
            case measure => simp [intOf]; omega
          · have HP := Lib.hid (pairsB_bad (most := limit) hlt hce)
            have hne : (checkE kind l[k].1 l[k].2 != 0) = true := bne_iff_ne.2 hce
            clear hce
            refine (check_any kind l[k].1 l[k].2 _ (by unfold maxLen; omega) (by unfold maxLen; omega) (HW.out.below B1)).mono ?_
            rintro e w2 ⟨rfl, hb2⟩
            go_wp2
            go_ret
            exact ⟨by rw [HP.out]; rfl, bel_trans B1 hb2⟩
      · have HP := Lib.hid (good.all (by omega) hlen)
        go_wp2
        go_ret
        exact ⟨by rw [HP.out]; rfl, bel⟩
  · have hd : decide ((limit : Int) < (l.length : Int)) = true := decide_eq_true (by omega)
    have HP := Lib.hid (pairsB_long (kind := kind) hlen)
    go_enter Tryd.func40, Tryd.ntmps40
    go_wp2
    go_ret
    exact ⟨by rw [HP.out]; rfl, Below.refl _ _⟩

set_option maxHeartbeats 1000000 in
theorem pairsMay_any (v : Value) (l : PL) (kind : Int) (most : Nat) (w : World) (hl : Lst w w.heap.size v l) (hlim : most ≤ 1000) :
    Calls Tryd.prog 43 #[v, .int .i64 most, .int .i64 kind] w fun e w' => e = .returned (.bool (pairsB l most kind)) ∧ Below w.heap.size w w' := by
  obtain ⟨A, c, rfl, hc⟩ := hl.form
  have hby := hl.bytes
  have HL := Lib.hid hl
  clear hl
  go_enter Tryd.func43, Tryd.ntmps43
  go_wp2
  go_loopw [7] (fun i wr => ∃ k : Nat, k ≤ l.length ∧ i = .int .i64 k ∧ FitRel w l kind k wr) (fun i _ => l.length - (intOf i).toNat)
  case atStart => exact ⟨0, by omega, rfl, ⟨fun j _ h => by omega, fun j _ h => by omega⟩, Below.refl _ _⟩
  case round =>
    obtain ⟨k, hk, rfl, good, bel⟩ := hrel
    by_cases hlt : k < l.length
    · obtain ⟨b, off, rfl, hb, c0, c1⟩ := HL.out.pt hlt
      obtain ⟨z0, z1⟩ := HL.out.key hlt
      have d0 := (bel.cell (p := ⟨b, off + k * 2, none⟩) hb).trans c0
      have d1 := (bel.cell (p := ⟨b, off + k * 2 + 1, none⟩) hb).trans c1
      have hbw : b < wr.heap.size := Nat.lt_of_lt_of_le hb bel.size
      have HG := Lib.hid good
      have HB := Lib.hid bel
      clear good bel c0 c1
      have kb := Below.refl wr.heap.size wr
      have s0 := d0
      have s1 := d1
      go_wp2
      go_region_held3 (fun wx => wx.cell? ⟨b, off + k * 2, none⟩ = some (.string l[k].1) ∧ wx.cell? ⟨b, off + k * 2 + 1, none⟩ = some (.string l[k].2))
        (first
          | with_reducible exact ⟨d0, d1⟩
          | with_reducible exact ⟨(kb.cell (p := ⟨b, off + k * 2, none⟩) hbw).trans s0, (kb.cell (p := ⟨b, off + k * 2 + 1, none⟩) hbw).trans s1⟩
          | exact ⟨d0, d1⟩)
        (first
          | (
            go_at_call 12
            refine (stmtFault_any kind l[k].1 l[k].2 (by unfold maxLen; omega) (by unfold maxLen; omega) _).mono ?_
            rintro e w3 ⟨rfl, hy⟩
            have kb : Below wr.heap.size wr w3 := by first | exact kb.trans (hy.mono kb.size) | exact kb.trans ⟨hy.os, hy.tape, hy.output, hy.size, fun i hi => hy.block i (Nat.lt_of_lt_of_le hi kb.size)⟩))
      have bb := HB.out.trans (kb.mono HB.out.size)
      have p0 := (kb.cell (p := ⟨b, off + k * 2, none⟩) hbw).trans s0
      by_cases hce : checkE kind l[k].1 l[k].2 = 0
      · have e0 : (checkE kind l[k].1 l[k].2 != 0) = false := by rw [hce]; rfl
        have HC := Lib.hid hce
        clear hce d0 d1 s0 s1
        by_cases hk0 : k = 0
        · have g0 : decide ((0 : Int) < (k : Int)) = false := decide_eq_false (by omega)
          have g1 : decide (0 < k) = false := decide_eq_false (by omega)
          have HK := Lib.hid hk0
          clear hk0
          go_wp2
          go_quiet (fail)
          go_wp2
          go_roundw
          case rel => exact ⟨k + 1, by omega, by go_num, HG.out.zero HK.out HC.out, below_drewN bb _⟩
          case measure => simp [intOf]; omega
        · obtain ⟨b', off', e', _, c0', _⟩ := HL.out.pt (k := k - 1) (by omega)
          obtain ⟨rfl, rfl⟩ : b = b' ∧ off = off' := by injection e' with e'; injection e' with e1 e2; exact ⟨e1, e2⟩
          clear e'
          have p0' := (bb.cell (p := ⟨b, off + (k - 1) * 2, none⟩) hb).trans c0'
          have g0 : decide ((0 : Int) < (k : Int)) = true := decide_eq_true (by omega)
          have g1 : decide (0 < k) = true := decide_eq_true (by omega)
          have q1 : IntKind.i64.wrap ((k : Int) - 1) = (k : Int) - 1 := IntWalk.i64_in _ (by omega)
          have q2 : ((k : Int) - 1).toNat = k - 1 := by omega
          have q3 : (0 : Int) ≤ (k : Int) - 1 := by omega
          have q4 : (1 : Int) ≤ (k : Int) := by omega
          have q5 : (k : Int) - 1 < (l.length : Int) := by omega
          clear c0'
          cases hq : ltB l[k - 1].1 l[k].1
          · have HP := Lib.hid (pairsB_fall' (most := most) (kind := kind) hlt hk0 hq)
            have e1 := leB_yes hq
            clear hq
            go_wp2
            go_quiet (fail)
            go_wp2
            go_ret
            exact ⟨by rw [HP.out]; rfl, below_drewN bb _⟩
          obtain ⟨e1, e2⟩ := leB_no hq
          have HQ := Lib.hid hq
          clear hq
          go_wp2
          go_quiet (fail)
          go_wp2
          go_roundw
          case rel => exact ⟨k + 1, by omega, by go_num, HG.out.succ hk0 HC.out HQ.out, below_drewN bb _⟩
          case measure => simp [intOf]; omega
      · have HP := Lib.hid (pairsB_bad (most := most) hlt hce)
        have hne : (checkE kind l[k].1 l[k].2 != 0) = true := bne_iff_ne.2 hce
        clear hce d0 d1 s0 s1
        go_wp2
        go_ret
        exact ⟨by rw [HP.out]; rfl, bb⟩
    · have HP := Lib.hid (good.long (most := most) (by omega))
      go_wp2
      go_ret
      exact ⟨by rw [HP.out]; simp, bel⟩
end Go.Proofs.YtpbaobmegomfpaaDoor
