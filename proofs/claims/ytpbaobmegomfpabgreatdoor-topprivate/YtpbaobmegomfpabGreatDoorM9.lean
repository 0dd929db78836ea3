/-
  Texts of the proof, one behind the other: PSta, PSetup, ActL, PChk, PRun, PTop, HouseK, HouseL, HouseN, ActsM, Say11, PMsg, GridC, PActs, DelA, PStay, EqP, Laid, LaidWords, LaidLeads, TabsL, WTopPrivate.
-/
import Derived.Test.YtpbaobmegomfpabGreatDoorM8
import Derived.Test.YtpbaobmegomfpabGreatDoorM5
import Derived.Test.YtpbaobmegomfpabGreatDoorM4
import Derived.Test.YtpbaobmegomfpabGreatDoorRows
import Derived.Below
import Derived.WalkKit
import Derived.WalkSpells
import Derived.WalkLawsBesides
import Derived.Lib.Hide
import Derived.Test.YtpbaobmegomfpabGreatDoorM1
import Derived.Deep.QuietTactic
import Derived.BigQuiet
import Derived.IntWalk
import Derived.Laws.Tables
import Derived.Deep.RegionHeld3
import Derived.Test.YtpbaobmegomfpabGreatDoorM3
import Derived.Test.YtpbaobmegomfpabGreatDoorM6
import Derived.Deep.CutRange
import Derived.Deep.CutBlock
import Derived.WalkSmall
import Derived.Deep.Upon
import Derived.ProofKit
import Derived.Lib.LaidTab
set_option linter.unusedVariables false
set_option linter.unusedSimpArgs false
set_option maxRecDepth 100000
open List renaming getElem_toArray → gTA, getElem_cons_zero → gCZ, getElem_cons_succ → gCS, setIfInBounds_toArray → sTA, set_cons_zero → sCZ, set_cons_succ → sCS
open Go.Lib renaming hid → hD
open Nat renaming le_refl → nL
namespace Go.Proofs.YtpbaobmegomfpabGreatDoor
open Go.RowKit
def poolV (mode : Int) (sS sB : Value) : List Value := [.int .i64 mode, .slice none 0 0, sS, sB, .string ⟨#[]⟩, .slice none 0 0, .bool false, .int .i64 0, .slice none 0 0, .slice none 0 0, .string ⟨#[]⟩, .slice none 0 0, .bool false, .int .i64 0, .slice none 0 0, .slice none 0 0, .string ⟨#[]⟩, .slice none 0 0, .bool false, .int .i64 0, .slice none 0 0, .slice none 0 0, .string ⟨#[]⟩, .slice none 0 0, .bool false, .int .i64 0, .slice none 0 0, .slice none 0 0, .string ⟨#[]⟩, .slice none 0 0, .bool false, .int .i64 0, .slice none 0 0, .slice none 0 0, .string ⟨#[]⟩, .slice none 0 0, .bool false, .int .i64 0, .slice none 0 0, .slice none 0 0, .slice none 0 0, .slice none 0 0, .slice none 0 0, .slice none 0 0, .slice none 0 0, .slice none 0 0, .slice none 0 0, .slice none 0 0]
def poolF (mode : Int) (sS sB : Value) : Nat → Value := fun j => (poolV mode sS sB).getD j (.int .i64 0)
def newSl (b n : Nat) : Value := .slice (some ⟨b, 0, none⟩) n n
def startG (P bB : Nat) : Nat → Option Nat := fun i => if i = 0 then some P else if i = 1 then some bB else none
theorem startG_out {P bB i b : Nat} (h : startG P bB i = some b) : (i = 0 ∧ b = P) ∨ (i = 1 ∧ b = bB) := by
 unfold startG at h
 split at h
 ·rename_i e; injection h with h; exact .inl ⟨e, h.symm⟩
 ·split at h
  ·rename_i e; injection h with h; exact .inr ⟨e, h.symm⟩
  ·cases h
theorem start_get (n c : Nat) : (Mach.start (poolStart n) n).get c = Cl.new := by
 unfold Mach.get Mach.start
 simp only
 rw [List.getD_eq_getElem?_getD, List.getElem?_replicate]
 split <;> rfl
theorem start_of (n c : Nat) : (Mach.start (poolStart n) n).e.of c = ([], []) := by
 show (List.replicate 6 (([], []) : PL × PL)).getD c ([], []) = _
 rw [List.getD_eq_getElem?_getD, List.getElem?_replicate]
 split <;> rfl
theorem start_sent (n c : Nat) : (Mach.start (poolStart n) n).sent.getD c ⟨#[]⟩ = ⟨#[]⟩ := by
 show (List.replicate 6 (⟨#[]⟩ : ByteArray)).getD c ⟨#[]⟩ = _
 rw [List.getD_eq_getElem?_getD, List.getElem?_replicate]
 split <;> rfl
theorem start_items (n : Nat) {k : Nat} (h2 : 2 ≤ k) (h15 : k ≤ 15) : items (Mach.start (poolStart n) n) k = [] := by
 unfold items
 rw [if_neg (by omega)]
 by_cases h8 : k < 8
 ·rw [if_pos h8, start_get]; rfl
 ·rw [if_neg h8]
  by_cases h : k = 8
  ·rw [if_pos h]; rfl
  ·rw [if_neg h]
   by_cases h9 : k < 15
   ·rw [if_pos h9, start_sent]; rfl
   ·rw [if_neg h9]; rfl
theorem poolF_nil (mode : Int) (sS sB : Value) : ∀ k, 2 ≤ k → k ≤ 15 → poolF mode sS sB (slC k) = .slice none 0 0 := by
 intro k h2 h15
 obtain rfl | rfl | rfl | rfl | rfl | rfl | rfl | rfl | rfl | rfl | rfl | rfl | rfl | rfl : k = 2 ∨ k = 3 ∨ k = 4 ∨ k = 5 ∨ k = 6 ∨ k = 7 ∨ k = 8 ∨ k = 9 ∨ k = 10 ∨ k = 11 ∨ k = 12 ∨ k = 13 ∨ k = 14 ∨ k = 15 := by omega
 all_goals rfl
theorem c6 {c : Nat} (h : c < 6) : c = 0 ∨ c = 1 ∨ c = 2 ∨ c = 3 ∨ c = 4 ∨ c = 5 := by omega
theorem poolF_cl (mode : Int) (sS sB : Value) {c : Nat} (hc : c < 6) : poolF mode sS sB (4 + c * 6) = .string ⟨#[]⟩ ∧ poolF mode sS sB (4 + c * 6 + 2) = .bool false ∧ poolF mode sS sB (4 + c * 6 + 3) = .int .i64 0 ∧ poolF mode sS sB (4 + c * 6 + 4) = .slice none 0 0 ∧ poolF mode sS sB (4 + c * 6 + 5) = .slice none 0 0 := by
 obtain rfl | rfl | rfl | rfl | rfl | rfl := c6 hc
 all_goals exact ⟨rfl, rfl, rfl, rfl, rfl⟩
theorem made_bools {w : World} {b n : Nat} (h : RowTo w b 4 n (madeCells #[.bool false] n).toList) : ∀ j, j < n → w.cell? ⟨b, j, none⟩ = some (.bool false) := fun j hj => by
 have hl : j < (madeCells #[Value.bool false] n).toList.length := by simpa [madeCells] using hj
 rw [h.cell hl]
 simp [madeCells, Nat.mod_one]
theorem PMem.start {w : World} {base P bS bB n : Nat} (hn : n ≤ 8) (mode : Int) (hS : RowTo w bS 115 (n * 5) (madeCells #[.int .i64 0, .slice none 0 0, .slice none 0 0, .slice none 0 0, .slice none 0 0] (n * 5)).toList) (hB : RowTo w bB 4 n (madeCells #[.bool false] n).toList)
  (hP : PRow w P (poolF mode (newSl bS n) (newSl bB n))) (h1 : bS ≠ bB) (h2 : bS ≠ P) (h3 : bB ≠ P) (hb1 : base ≤ bB) (hb2 : base ≤ P) : PMem 0 w base P (poolF mode (newSl bS n) (newSl bB n)) (startG P bB) mode (Mach.start (poolStart n) n) := by
 have hs := made_sess hS hn
 refine ⟨hP, rfl, fun i b hi => ?_, fun i j b hi hj => ?_, fun k k1 k15 _ => ?_, rfl, ?_, fun c hc => ?_, fun c hc => ?_, fun c hc => ?_, fun c hc => ?_, fun c hc => ?_⟩
 ·rcases startG_out hi with ⟨_, rfl⟩ | ⟨_, rfl⟩
  ·exact ⟨hb2, hP.lt⟩
  ·exact ⟨hb1, hB.lt⟩
 ·rcases startG_out hi with ⟨e1, e2⟩ | ⟨e1, e2⟩ <;> rcases startG_out hj with ⟨e3, e4⟩ | ⟨e3, e4⟩ <;> omega
 ·by_cases e : k = 1
  ·subst e
   have hi : items (Mach.start (poolStart n) n) 1 = (List.replicate n false).map (fun b => [.bool b]) := rfl
   rw [hi, flat_bools, List.length_map, List.length_replicate]
   refine ⟨by simp [slZ], .inr ⟨bB, 0, n, n, rfl, rfl, nL _, hB.nil, .inr (by simp [slZ]), fun j hj => ?_⟩⟩
   have hj' : j < n := by simpa using hj
   rw [Nat.zero_add, made_bools hB j hj']
   simp
  ·rw [start_items n (by omega) k15, poolF_nil mode _ _ k (by omega) k15]
   have : startG P bB k = none := by unfold startG; rw [if_neg (by omega), if_neg e]
   rw [this]
   exact Sl.nil_ _ _ _
 ·refine WldP.mk' (Lst.none_ _ _) (InP.nil_ _ _) hs.form hs.bytes (fun hp => ?_)
  obtain ⟨b', off', c', e', hb', hc'⟩ := hs.cells hp
  refine ⟨b', off', c', e', ?_, hb', fun i hi => ?_⟩
  ·injection e' with e'
   injection e' with e'
   injection e' with e1' e2'
   subst e1' e2'
   intro i hi
   rcases startG_out hi with ⟨_, e⟩ | ⟨_, e⟩
   ·exact h2 e
   ·exact h1 e
  ·obtain ⟨v1, v2, v3, v4, q⟩ := hc' i hi
   have hi' : i < (List.replicate n Sess.zero).length := hi
   have z : (List.replicate n Sess.zero)[i]'hi' = Sess.zero := List.getElem_replicate _
   refine ⟨v1, v2, v3, v4, q, ?_, ?_, ?_, ?_⟩
   ·show InP _ v1 ((List.replicate n Sess.zero)[i]'hi').set
    rw [z]; exact InP.nil_ _ _
   ·show InP _ v2 ((List.replicate n Sess.zero)[i]'hi').prep
    rw [z]; exact InP.nil_ _ _
   ·show InP _ v3 ((List.replicate n Sess.zero)[i]'hi').sav
    rw [z]; exact InP.nil_ _ _
   ·show InP _ v4 ((List.replicate n Sess.zero)[i]'hi').wr
    rw [z]; exact InP.nil_ _ _
 ·rw [start_get]; exact (poolF_cl mode _ _ hc).1
 ·rw [start_get]; exact (poolF_cl mode _ _ hc).2.1
 ·rw [start_get]; exact ⟨0, (poolF_cl mode _ _ hc).2.2.1, fun s hs => by cases hs⟩
 ·rw [start_of, (poolF_cl mode _ _ hc).2.2.2.1]; exact ⟨Lst.none_ _ _, InP.nil_ _ _⟩
 ·rw [start_of, (poolF_cl mode _ _ hc).2.2.2.2]; exact ⟨Lst.none_ _ _, InP.nil_ _ _⟩
theorem Tabs.up {w : World} {B B' : Nat} (h : Tabs w B) (hB : B ≤ B') : Tabs w B' := ⟨h.wo, h.le, Nat.lt_of_lt_of_le h.l1 hB, Nat.lt_of_lt_of_le h.l2 hB⟩
theorem OutV.off3 {w : World} {R : Nat} {v1 v2 v3 : Value} {sent : List ByteArray} {deeds : List Deed} {rows : PL} (h : OutV w v1 v2 v3 sent deeds rows) (hR : RowTo w R 29 3 [.slice none 0 0, .slice none 0 0, .slice none 0 0]) (a b c : Value) :
  OutV (((w.setCell ⟨R, 0, none⟩ a).setCell ⟨R, 1, none⟩ b).setCell ⟨R, 2, none⟩ c) v1 v2 v3 sent deeds rows := by
 have hk : ∀ p : Addr, p.block ≠ R → (((w.setCell ⟨R, 0, none⟩ a).setCell ⟨R, 1, none⟩ b).setCell ⟨R, 2, none⟩ c).cell? p = w.cell? p := fun p hp => by
  rw [World.cell?_of_block (set_off _ R 2 c _ hp), World.cell?_of_block (set_off _ R 1 b _ hp), World.cell?_of_block (set_off _ R 0 a _ hp)]
 have hs : (((w.setCell ⟨R, 0, none⟩ a).setCell ⟨R, 1, none⟩ b).setCell ⟨R, 2, none⟩ c).heap.size = w.heap.size := by rw [size_set, size_set, size_set]
 have hno : ∀ j u, w.cell? ⟨R, j, none⟩ = some u → ∃ n c, u = .slice none n c := fun j u hu => by
  obtain ⟨cur, hh, hz, ht⟩ := hR
  have e : w.cell? ⟨R, j, none⟩ = cur[j]? := by unfold World.cell?; simp only [hh]; rfl
  rw [e] at hu
  have hj : j < cur.size := (Array.getElem?_eq_some_iff.1 hu).1
  have ht' : cur.toList = [.slice none 0 0, .slice none 0 0, .slice none 0 0] := by rw [← ht]; exact (List.take_of_length_le (by simp [hz])).symm
  rw [← Array.getElem?_toList, ht'] at hu
  match j, hu with
  | 0, hu => injection hu with hu; exact ⟨0, 0, hu.symm⟩
  | 1, hu => injection hu with hu; exact ⟨0, 0, hu.symm⟩
  | 2, hu => injection hu with hu; exact ⟨0, 0, hu.symm⟩
  | n + 3, hu => simp at hu
 refine ⟨⟨h.s.form, h.s.small, h.s.sizes, fun hn => ?_⟩, ⟨h.d.form, h.d.small, fun hn => ?_⟩, ⟨h.r.form, h.r.bytes, h.r.sizes, fun hn => ?_, h.r.nil⟩⟩
 ·obtain ⟨b', off, c', e, hb, hc⟩ := h.s.cells hn
  have hne : b' ≠ R := fun e' => by
   subst e'
   obtain ⟨_, _, hu⟩ := hno _ _ (hc 0 hn)
   cases hu
  exact ⟨b', off, c', e, by rw [hs]; exact hb, fun i hi => (hk _ hne).trans (hc i hi)⟩
 ·obtain ⟨b', off, c', e, hb, hc⟩ := h.d.cells hn
  have hne : b' ≠ R := fun e' => by
   subst e'
   obtain ⟨_, _, hu⟩ := hno _ _ (hc 0 hn 0 _ rfl)
   cases hu
  exact ⟨b', off, c', e, by rw [hs]; exact hb, fun i hi j u hu => (hk _ hne).trans (hc i hi j u hu)⟩
 ·obtain ⟨b', off, c', e, hb, hc⟩ := h.r.cells hn
  have hne : b' ≠ R := fun e' => by
   subst e'
   obtain ⟨_, _, hu⟩ := hno _ _ (hc 0 hn).1
   cases hu
  exact ⟨b', off, c', e, by rw [hs]; exact hb, fun i hi => ⟨(hk _ hne).trans (hc i hi).1, (hk _ hne).trans (hc i hi).2⟩⟩
theorem built_pool (mode : Int) (sS sB : Value) (hS : sS.oneCell' = true) (hB : sB.oneCell' = true) : Tryz.prog.built 83 [(0, .int .i64 mode), (1, .agg #[.slice none 0 0, sS]), (2, sB)] = some (poolV mode sS sB).toArray := by
 cases sS <;> first | (cases hS; done) | (cases sB <;> first | (cases hB; done) | kernel_rfl)
end Go.Proofs.YtpbaobmegomfpabGreatDoor
namespace Go.Proofs.YtpbaobmegomfpabGreatDoor
open Go.RowKit
set_option maxHeartbeats 1000000 in
theorem checkSetup_any (m s : Int) (w : World) : Calls Tryz.prog 47 #[.agg #[.int .i64 m, .int .i64 s]] w fun e w' => e = .returned (.int .i64 (setupE m s)) ∧ Below w.heap.size w w' := by
 by_cases h1 : m < 1
 ·have t1 : decide (m < 1) = true := decide_eq_true h1
  have HE := hD (show setupE m s = 3 by unfold setupE; rw [if_pos (.inl h1)])
  go_enter Tryz.func47, Tryz.ntmps47
  go_wp2
  go_ret
  refine ⟨by rw [HE.out]; rfl, ?_⟩
  repeat' (first | exact Below.refl _ _ | assumption | with_reducible refine below_drewN ?_ _ | with_reducible refine Below.drew ?_ | with_reducible refine Below.setCell ?_ ?_ _ | with_reducible refine Below.alloc ?_ ?_ _ | (simp; done) | (simp; omega))
 have t1 : decide (m < 1) = false := decide_eq_false h1
 by_cases h2 : 3 < m
 ·have t2 : decide (3 < m) = true := decide_eq_true h2
  have HE := hD (show setupE m s = 3 by unfold setupE; rw [if_pos (.inr h2)])
  go_enter Tryz.func47, Tryz.ntmps47
  go_wp2
  go_ret
  refine ⟨by rw [HE.out]; rfl, ?_⟩
  repeat' (first | exact Below.refl _ _ | assumption | with_reducible refine below_drewN ?_ _ | with_reducible refine Below.drew ?_ | with_reducible refine Below.setCell ?_ ?_ _ | with_reducible refine Below.alloc ?_ ?_ _ | (simp; done) | (simp; omega))
 have t2 : decide (3 < m) = false := decide_eq_false h2
 by_cases h3 : s < 1
 ·have t3 : decide (s < 1) = true := decide_eq_true h3
  have HE := hD (show setupE m s = 2 by unfold setupE; rw [if_neg (by omega), if_pos (.inl h3)])
  go_enter Tryz.func47, Tryz.ntmps47
  go_wp2
  go_ret
  refine ⟨by rw [HE.out]; rfl, ?_⟩
  repeat' (first | exact Below.refl _ _ | assumption | with_reducible refine below_drewN ?_ _ | with_reducible refine Below.drew ?_ | with_reducible refine Below.setCell ?_ ?_ _ | with_reducible refine Below.alloc ?_ ?_ _ | (simp; done) | (simp; omega))
 have t3 : decide (s < 1) = false := decide_eq_false h3
 by_cases h4 : 4 < s
 ·have t4 : decide (4 < s) = true := decide_eq_true h4
  have HE := hD (show setupE m s = 2 by unfold setupE; rw [if_neg (by omega), if_pos (.inr h4)])
  go_enter Tryz.func47, Tryz.ntmps47
  go_wp2
  go_ret
  refine ⟨by rw [HE.out]; rfl, ?_⟩
  repeat' (first | exact Below.refl _ _ | assumption | with_reducible refine below_drewN ?_ _ | with_reducible refine Below.drew ?_ | with_reducible refine Below.setCell ?_ ?_ _ | with_reducible refine Below.alloc ?_ ?_ _ | (simp; done) | (simp; omega))
 have t4 : decide (4 < s) = false := decide_eq_false h4
 have HE := hD (show setupE m s = 0 by unfold setupE; rw [if_neg (by omega), if_neg (by omega)])
 go_enter Tryz.func47, Tryz.ntmps47
 go_wp2
 go_ret
 refine ⟨by rw [HE.out]; rfl, ?_⟩
 repeat' (first | exact Below.refl _ _ | assumption | with_reducible refine below_drewN ?_ _ | with_reducible refine Below.drew ?_ | with_reducible refine Below.setCell ?_ ?_ _ | with_reducible refine Below.alloc ?_ ?_ _ | (simp; done) | (simp; omega))
end Go.Proofs.YtpbaobmegomfpabGreatDoor
namespace Go.Proofs.YtpbaobmegomfpabGreatDoor
open Go.RowKit
structure ALst (w : World) (B : Nat) (v : Value) (l : List Act) : Prop where
 form : ∃ A c, v = .slice A l.length c ∧ l.length ≤ c
 bytes : l.length * 32 ≤ 140737488351232
 sizes : ∀ a ∈ l, a.data.size ≤ 140737488351232
 cells : 0 < l.length → ∃ b off c, v = .slice (some ⟨b, off, none⟩) l.length c ∧ b < B ∧
  ∀ i (h : i < l.length), w.cell? ⟨b, off + i * 3, none⟩ = some (.int .i64 l[i].kind) ∧ w.cell? ⟨b, off + i * 3 + 1, none⟩ = some (.int .i64 l[i].c) ∧ w.cell? ⟨b, off + i * 3 + 2, none⟩ = some (.string l[i].data)
theorem ALst.keep {w w' : World} {B B' : Nat} {v : Value} {l : List Act} (h : ALst w B v l) (hB : B ≤ B') (hk : ∀ p : Addr, p.block < B → w'.cell? p = w.cell? p) : ALst w' B' v l := by
 refine ⟨h.form, h.bytes, h.sizes, fun hn => ?_⟩
 obtain ⟨b, off, c, e, hb, hc⟩ := h.cells hn
 exact ⟨b, off, c, e, by omega, fun i hi => ⟨(hk _ hb).trans (hc i hi).1, (hk _ hb).trans (hc i hi).2.1, (hk _ hb).trans (hc i hi).2.2⟩⟩
theorem ALst.below {w w' : World} {B : Nat} {v : Value} {l : List Act} (h : ALst w B v l) (hb : Below B w w') : ALst w' B v l := h.keep (nL _) fun _ hp => hb.cell hp
theorem ALst.step {w w' : World} {v : Value} {l : List Act} (h : ALst w w.heap.size v l) (hb : Below w.heap.size w w') : ALst w' w'.heap.size v l := h.keep hb.size fun _ hp => hb.cell hp
theorem ALst.pt {w : World} {B n c : Nat} {A : Option Addr} {l : List Act} (h : ALst w B (.slice A n c) l) {k : Nat} (hk : k < l.length) :
  ∃ b off, A = some ⟨b, off, none⟩ ∧ b < B ∧ w.cell? ⟨b, off + k * 3, none⟩ = some (.int .i64 l[k].kind) ∧ w.cell? ⟨b, off + k * 3 + 1, none⟩ = some (.int .i64 l[k].c) ∧ w.cell? ⟨b, off + k * 3 + 2, none⟩ = some (.string l[k].data) := by
 obtain ⟨b, off, c', e, hb, hc⟩ := h.cells (by omega)
 injection e with e1 e2 e3
 obtain ⟨h1, h2, h3⟩ := hc k hk
 exact ⟨b, off, e1, hb, h1, h2, h3⟩
theorem actsE_take {l : List Act} {k : Nat} (hk : k < l.length) (h : actsE (l.take k) = 0) : actsE (l.take (k + 1)) = actE l[k] := by
 induction l generalizing k with
 | nil => simp at hk
 | cons a l ih =>
  cases k with
  | zero => simp [actsE]; intro h; exact h.symm
  | succ k =>
   rw [List.take_succ_cons] at h ⊢
   unfold actsE at h ⊢
   by_cases e : actE a ≠ 0
   ·rw [if_pos e] at h; exact absurd h e
   ·rw [if_neg e] at h ⊢
    exact ih (by simpa using hk) h
theorem actsE_of {l : List Act} {k : Nat} (hk : k < l.length) (h : actsE (l.take k) = 0) (he : actE l[k] ≠ 0) : actsE l = actE l[k] := by
 induction l generalizing k with
 | nil => simp at hk
 | cons a l ih =>
  cases k with
  | zero => unfold actsE; rw [if_pos (by simpa using he)]; rfl
  | succ k =>
   rw [List.take_succ_cons] at h
   unfold actsE at h ⊢
   by_cases e : actE a ≠ 0
   ·rw [if_pos e] at h; exact absurd h e
   ·rw [if_neg e] at h ⊢
    exact ih (by simpa using hk) h (by simpa using he)
end Go.Proofs.YtpbaobmegomfpabGreatDoor
namespace Go.Proofs.YtpbaobmegomfpabGreatDoor
open Go.RowKit
set_option maxHeartbeats 1000000 in
theorem checkAct_any (k c : Int) (d : ByteArray) (w : World) : Calls Tryz.prog 48 #[.agg #[.int .i64 k, .int .i64 c, .string d]] w fun e w' => e = .returned (.int .i64 (actE ⟨k, c, d⟩)) ∧ Below w.heap.size w w' := by
 have nn := (Below.refl w.heap.size w).alloc (nL _) (.cells #[.int .i64 k, .int .i64 c, .string d] 54)
 by_cases h1 : k = 1 ∨ k = 2
 case neg =>
  have t1 : (k != 1) = true := bne_iff_ne.2 (fun h => h1 (.inl h))
  have t2 : (k != 2) = true := bne_iff_ne.2 (fun h => h1 (.inr h))
  have HE := hD (show actE ⟨k, c, d⟩ = 3 by unfold actE; rw [if_pos h1])
  have HN := hD nn
  clear h1 nn
  go_enter Tryz.func48, Tryz.ntmps48
  go_wp2
  go_ret
  exact ⟨by rw [HE.out]; rfl, HN.out⟩
 by_cases h2 : c < 0
 ·have t3 : decide (c < 0) = true := decide_eq_true h2
  have HE := hD (show actE ⟨k, c, d⟩ = 2 by unfold actE; rw [if_neg (fun h => h h1), if_pos (.inl h2)])
  have HN := hD nn
  clear h2 nn
  rcases h1 with rfl | rfl
  all_goals
   go_enter Tryz.func48, Tryz.ntmps48
   go_wp2
   go_ret
   exact ⟨by rw [HE.out]; rfl, HN.out⟩
 have t3 : decide (c < 0) = false := decide_eq_false h2
 by_cases h3 : 6 ≤ c
 ·have t4 : decide (6 ≤ c) = true := decide_eq_true h3
  have HE := hD (show actE ⟨k, c, d⟩ = 2 by unfold actE; rw [if_neg (fun h => h h1), if_pos (.inr h3)])
  have HN := hD nn
  clear h2 h3 nn
  rcases h1 with rfl | rfl
  all_goals
   go_enter Tryz.func48, Tryz.ntmps48
   go_wp2
   go_ret
   exact ⟨by rw [HE.out]; rfl, HN.out⟩
 have t4 : decide (6 ≤ c) = false := decide_eq_false h3
 by_cases h4 : 1000 < d.size
 ·have t5 : decide (1000 < (d.size : Int)) = true := decide_eq_true (by omega)
  have HE := hD (show actE ⟨k, c, d⟩ = 1 by unfold actE; rw [if_neg (fun h => h h1), if_neg (by simp only; omega), if_pos h4])
  have HN := hD nn
  clear h2 h3 h4 nn
  rcases h1 with rfl | rfl
  all_goals
   go_enter Tryz.func48, Tryz.ntmps48
   go_wp2
   go_ret
   exact ⟨by rw [HE.out]; rfl, HN.out⟩
 have t5 : decide (1000 < (d.size : Int)) = false := decide_eq_false (by omega)
 have HE := hD (show actE ⟨k, c, d⟩ = 0 by unfold actE; rw [if_neg (fun h => h h1), if_neg (by simp only; omega), if_neg h4])
 have HN := hD nn
 clear h2 h3 h4 nn
 rcases h1 with rfl | rfl
 all_goals
  go_enter Tryz.func48, Tryz.ntmps48
  go_wp2
  go_ret
  exact ⟨by rw [HE.out]; rfl, HN.out⟩
set_option maxHeartbeats 1000000 in
theorem checkRun_any (m s : Int) (v : Value) (l : List Act) (w : World) (hl : ALst w w.heap.size v l) :
  Calls Tryz.prog 24 #[.agg #[.int .i64 m, .int .i64 s], v] w fun e w' => e = .returned (.int .i64 (runE m s l)) ∧ Below w.heap.size w w' := by
 obtain ⟨A, c, rfl, hc⟩ := hl.form
 have hby := hl.bytes
 have HL := hD hl
 have HCS := hD (checkSetup_any m s)
 clear hl
 by_cases hs : setupE m s = 0
 case neg =>
  have HE := hD (show runE m s l = setupE m s by unfold runE; rw [if_pos hs])
  have t1 : (setupE m s != 0) = true := bne_iff_ne.2 hs
  clear hs
  generalize setupE m s = e0 at *
  go_enter Tryz.func24, Tryz.ntmps24
  go_wp2_with fail
  refine (HCS.out _).mono ?_
  rintro e w1 ⟨rfl, hb⟩
  have HB := hD hb
  go_wp2
  go_ret
  exact ⟨by rw [HE.out]; rfl, bel_add' ((Below.refl w.heap.size w).alloc (nL _) _) HB.out (by simp)⟩
 rw [hs] at HCS
 by_cases h3 : 300 < l.length
 ·have t2 : decide (300 < (l.length : Int)) = true := decide_eq_true (by omega)
  have HE := hD (show runE m s l = 1 by unfold runE; rw [if_neg (fun h => h hs), if_pos h3])
  clear hs
  go_enter Tryz.func24, Tryz.ntmps24
  go_wp2_with fail
  refine (HCS.out _).mono ?_
  rintro e w1 ⟨rfl, hb⟩
  have HB := hD hb
  go_wp2
  go_ret
  exact ⟨by rw [HE.out]; rfl, bel_add' ((Below.refl w.heap.size w).alloc (nL _) _) HB.out (by simp)⟩
 have t2 : decide (300 < (l.length : Int)) = false := decide_eq_false (by omega)
 have HE := hD (show runE m s l = actsE l by unfold runE; rw [if_neg (fun h => h hs), if_neg h3])
 clear hs
 go_enter Tryz.func24, Tryz.ntmps24
 go_wp2_with fail
 refine (HCS.out _).mono ?_
 rintro e w1 ⟨rfl, hb⟩
 have HB := hD (bel_add' ((Below.refl w.heap.size w).alloc (nL _) _) hb (by simp))
 clear hb
 go_wp2
 go_loopw [19] (fun j wr => ∃ k : Nat, k ≤ l.length ∧ j = .int .i64 k ∧ Hid (actsE (l.take k) = 0 ∧ Below w.heap.size w wr)) (fun j _ => l.length - (intOf j).toNat)
 case atStart => exact ⟨0, by omega, rfl, rfl, HB.out⟩
 case round =>
  obtain ⟨k, hk, rfl, hR⟩ := hrel
  clear HB
  by_cases hlt : k < l.length
  ·obtain ⟨b, off, rfl, hb, l0, l1, l2⟩ := HL.out.pt hlt
   have bl := hR.out.2
   have d0 := (bl.cell (p := ⟨b, off + k * 3, none⟩) hb).trans l0
   have d1 := (bl.cell (p := ⟨b, off + k * 3 + 1, none⟩) hb).trans l1
   have d2 := (bl.cell (p := ⟨b, off + k * 3 + 2, none⟩) hb).trans l2
   have hbw : b < wr.heap.size := Nat.lt_of_lt_of_le hb bl.size
   have HT := hD (actsE_take hlt hR.out.1)
   have HO := hD (fun h => actsE_of hlt hR.out.1 h)
   have HC := hD (fun wc => checkAct_any l[k].kind l[k].c l[k].data wc)
   have HBL := hD bl
   obtain ⟨q, HQ⟩ : ∃ q, Hid (actE l[k] = q) := ⟨_, hD rfl⟩
   have hq : actE ⟨l[k].kind, l[k].c, l[k].data⟩ = q := HQ.out
   rw [hq] at HC
   rw [HQ.out] at HT HO
   generalize l[k] = x at *
   clear l0 l1 l2 bl hq HQ hR
   go_wp2_with fail
   refine (HC.out _).mono ?_
   rintro e w2 ⟨rfl, hb2⟩
   have HB2 := hD (bel_add' (HBL.out.alloc HBL.out.size (.cells #[.int .i64 x.kind, .int .i64 x.c, .string x.data] 54)) hb2 (by have := HBL.out.size; simp; omega))
   clear hb2
   by_cases hq : q = 0
   ·subst hq
    go_wp2
    go_roundw
    case rel => exact ⟨k + 1, by omega, by go_num, HT.out, HB2.out⟩
    case measure => simp [intOf]; omega
   ·have t1 : (q != 0) = true := bne_iff_ne.2 hq
    have HO2 := hD (HO.out hq)
    clear HO hq
    go_wp2
    go_ret
    exact ⟨by rw [HE.out, HO2.out]; rfl, HB2.out⟩
  ·obtain rfl : k = l.length := by omega
   have HZ := hD hR.out.1
   rw [List.take_length] at HZ
   have HBL := hD hR.out.2
   go_wp2
   go_ret
   exact ⟨by rw [HE.out, HZ.out]; rfl, HBL.out⟩
end Go.Proofs.YtpbaobmegomfpabGreatDoor
namespace Go.Proofs.YtpbaobmegomfpabGreatDoor
open Go.RowKit
section
variable {base P : Nat} {f : Nat → Value} {G : Nat → Option Nat} {mode : Int} {m : Mach PE} {N : Nat}
set_option maxHeartbeats 1000000 in
theorem perform_any (w : World) (h : PMem 0 w base P f G mode m) (hT : Tabs w base) (hI : Inv mode m N) (hN : N + 1000 ≤ 300000) (a : Act) (ha : actE a = 0) (hbl : m.busy.length ≤ 8) :
  Calls Tryz.prog 25 #[ptr P 0, .agg #[.int .i64 a.kind, .int .i64 a.c, .string a.data]] w (PPost w base P mode (m.act poolO mode a)) := by
 have hP := h.row.lt
 have hbP := (h.lo 0 P h.p0).1
 obtain ⟨hk, hc0, hc6, hd⟩ := actE_of ha
 obtain ⟨c, hc⟩ : ∃ c : Nat, a.c = c := ⟨a.c.toNat, by omega⟩
 have hc6' : c < 6 := by omega
 have hct : a.c.toNat = c := by omega
 have n0 := (Below.refl w.heap.size w).alloc (nL _) (.cells #[.int .i64 a.kind, .int .i64 a.c, .string a.data] 54)
 obtain ⟨x0, x1, x2⟩ := cells3 (RowTo.whole w #[.int .i64 a.kind, .int .i64 a.c, .string a.data] 54)
 have nB := n0.mono (Nat.le_trans hbP (Nat.le_of_lt hP))
 have hM0 := h.below n0
 have hT0 := hT.below nB
 rw [hc] at x0 x1 x2 hM0 hT0 nB ⊢
 obtain ⟨data, HDA⟩ : ∃ d, Hid (a.data = d) := ⟨_, hD rfl⟩
 rw [HDA.out] at x0 x1 x2 hM0 hT0 nB hd ⊢
 rcases hk with hk | hk
 ·rw [hk] at x0 x1 x2 hM0 hT0 nB ⊢
  have HE := hD (show (m.deliver poolO mode c data).all poolO mode = m.act poolO mode a by unfold Mach.act; rw [if_pos hk, hct, HDA.out])
  have HD := hD (deliver_any _ hM0 hT0 hI hc6' data (by omega) hbl)
  have HT0 := hD hT0
  have HI2 := hD ((hI.deliver hc6' data).mono (show N + data.size ≤ N + 1000 by omega))
  have HB := hD nB
  have hbl2 : (m.deliver poolO mode c data).busy.length ≤ 8 := by unfold Mach.deliver; rw [feed_len]; exact hbl
  unfold ptr at HD ⊢
  clear h hT hI n0 nB hM0 hT0 ha hk HDA hc hct
  go_enter Tryz.func25, Tryz.ntmps25
  go_wp2_with fail
  refine HD.out.mono ?_
  rintro e w1 ⟨f1, G1, rfl, hM1, hB1⟩
  have HA := hD (all_any w1 hM1 (HT0.out.below hB1) HI2.out hN hbl2)
  have HB1 := hD (HB.out.trans hB1)
  unfold ptr at HA
  clear hM1 hB1 HD x0 x1 x2
  go_wp2_with fail
  refine HA.out.mono ?_
  rintro e w2 ⟨f2, G2, rfl, hM2, hB2⟩
  have HF := hD (And.intro hM2 (HB1.out.trans hB2))
  clear hM2 hB2 HA
  go_wp2
  go_end0
  rw [← HE.out]
  exact ⟨f2, G2, rfl, HF.out.1, HF.out.2⟩
 ·rw [hk] at x0 x1 x2 hM0 hT0 nB ⊢
  have HE := hD (show (m.leave poolO c).all poolO mode = m.act poolO mode a by unfold Mach.act; rw [if_neg (by omega), hct])
  have HD := hD (leave_any _ hM0 hT0 hI hc6')
  have HT0 := hD hT0
  have HI2 := hD ((hI.leave hc6').mono (show N ≤ N + 1000 by omega))
  have HB := hD nB
  have hbl2 : (m.leave poolO c).busy.length ≤ 8 := by rw [leave_len']; exact hbl
  unfold ptr at HD ⊢
  clear h hT hI n0 nB hM0 hT0 ha hk HDA hc hct
  go_enter Tryz.func25, Tryz.ntmps25
  go_wp2_with fail
  refine HD.out.mono ?_
  rintro e w1 ⟨f1, G1, rfl, hM1, hB1⟩
  have HA := hD (all_any w1 hM1 (HT0.out.below hB1) HI2.out hN hbl2)
  have HB1 := hD (HB.out.trans hB1)
  unfold ptr at HA
  clear hM1 hB1 HD x0 x1 x2
  go_wp2_with fail
  refine HA.out.mono ?_
  rintro e w2 ⟨f2, G2, rfl, hM2, hB2⟩
  have HF := hD (And.intro hM2 (HB1.out.trans hB2))
  clear hM2 hB2 HA
  go_wp2
  go_end0
  rw [← HE.out]
  exact ⟨f2, G2, rfl, HF.out.1, HF.out.2⟩
end
section
variable {P : Program} {ops : Array Oper} {Q : Exit → Go.Act → World → Prop} {md : Region.Mode} {S : World → Prop} {z : Nat}
theorem wpAnyZ_many {is : List Nat} {fuel : Nat} {listed : Array Bool} {a : Go.Act} {w : World} (hr : Region.ready md ops listed = is) (hne : is ≠ [])
  (h : ∀ i ∈ is, ∃ o, ops[i]? = some o ∧ o.guard = none ∧ ∀ K' : Go.Act → World → Prop, Shut (∀ a w, S w → wpAnyZ P md ops Q S z fuel (listed.setIfInBounds i true) a w → K' a w) → Oper.wp P o a w K' Q) : wpAnyZ P md ops Q S z (fuel + 1) listed a w := by
 refine ⟨fun h0 => absurd (hr.symm.trans h0) hne, fun j hj => ?_⟩
 rw [hr] at hj
 obtain ⟨o, ho, hg, hh⟩ := h j hj
 refine wpOp_step ho fun K' hK => ?_
 rw [if_pos (by simp [Region.wanted, hg])]
 exact hh K' (fun a w hS hW => hK a w ⟨fun _ => hS, hW⟩)
theorem wpAnyZ_share {fuel : Nat} {listed : Array Bool} {a : Go.Act} {w : World} (F : Nat → Nat → Nat → World → Prop) (v21 v22 v25 v7 : Nat → Value) (v26 : Nat → Nat → Value)
  (hfin : ∀ x y u wf, F x y u wf → Q .normal (((((a.put (some 21) (v21 x)).put (some 22) (v22 x)).put (some 25) (v25 y)).put (some 26) (v26 x y)).put (some 7) (v7 u)) wf)
  (h : Hid (∀ x y u wf, F x y u wf → Q .normal (((((a.put (some 21) (v21 x)).put (some 22) (v22 x)).put (some 25) (v25 y)).put (some 26) (v26 x y)).put (some 7) (v7 u)) wf) → wpAnyZ P md ops Q S z fuel listed a w) : wpAnyZ P md ops Q S z fuel listed a w := h (hD hfin)
end
theorem three (w : World) (c1 c2 c3 : Array Value) (t1 t2 t3 : TypeId) : (((w.alloc (.cells c1 t1)).alloc (.cells c2 t2)).alloc (.cells c3 t3)).heap[w.heap.size]? = some (.cells c1 t1) ∧ (((w.alloc (.cells c1 t1)).alloc (.cells c2 t2)).alloc (.cells c3 t3)).heap[w.heap.size + 1]? = some (.cells c2 t2) ∧
  (((w.alloc (.cells c1 t1)).alloc (.cells c2 t2)).alloc (.cells c3 t3)).heap[w.heap.size + 1 + 1]? = some (.cells c3 t3) ∧ Below w.heap.size w (((w.alloc (.cells c1 t1)).alloc (.cells c2 t2)).alloc (.cells c3 t3)) := by
 refine ⟨?_, ?_, ?_, (((Below.refl w.heap.size w).alloc (nL _) _).alloc (by simp) _).alloc (by simp; omega) _⟩
 ·rw [Below.heap_alloc _ _ _ (by simp; omega), Below.heap_alloc _ _ _ (by simp), heap_alloc_new]
 ·rw [Below.heap_alloc _ _ _ (by simp)]
  have := heap_alloc_new (w.alloc (.cells c1 t1)) (.cells c2 t2)
  simpa using this
 ·have := heap_alloc_new ((w.alloc (.cells c1 t1)).alloc (.cells c2 t2)) (.cells c3 t3)
  simpa using this
theorem bool_row : (Tryz.prog.info? 4).map (fun i => (i.zero, i.size, i.bytes)) = some (some (.bool false), 1, 1) := by kernel_rfl
theorem make_bool (n : Nat) (h : n ≤ 8) (w : World) : (Instr.makeSlice 75 (.int .i64 (n : Int)) (.int .i64 (n : Int))).run Tryz.prog w = .ok (.slice (some ⟨w.heap.size, 0, none⟩) n n) (w.alloc (.cells (madeCells #[.bool false] n) 4)) := by
 obtain ⟨i0, hi, hz0, hz1, hz2⟩ := info_parts bool_row
 have hr := run_make (P := Tryz.prog) w 75 4 i0 _ Tryz.underlying75 hi hz0 .i64 .i64 (n : Int) (n : Int) (by omega) (Int.le_refl _) (by rw [hz2]; omega) (by omega)
 rw [hz1, Nat.mul_one, show (Value.bool false).cells = #[.bool false] from rfl] at hr
 simpa only [Int.toNat_natCast] using hr
theorem exec_pool {ev : Operand → Value} {o : Oper} {x y z : Operand} {mode : Int} {bS bB n : Nat} (ho : o.op = .build 83 #[(0, x), (1, y), (2, z)]) (hx : ev x = .int .i64 mode) (hy : ev y = .agg #[.slice none 0 0, .slice (some ⟨bS, 0, none⟩) n n]) (hz : ev z = .slice (some ⟨bB, 0, none⟩) n n) (w : World) :
  (execOp ev o).run Tryz.prog w = .ok (.value (.agg (poolV mode (.slice (some ⟨bS, 0, none⟩) n n) (.slice (some ⟨bB, 0, none⟩) n n)).toArray)) w := by
 have h := run_build (P := Tryz.prog) w 83 #[(0, .int .i64 mode), (1, .agg #[.slice none 0 0, .slice (some ⟨bS, 0, none⟩) n n]), (2, .slice (some ⟨bB, 0, none⟩) n n)] _ (built_pool mode (.slice (some ⟨bS, 0, none⟩) n n) (.slice (some ⟨bB, 0, none⟩) n n) rfl rfl)
 unfold execOp
 simp only [ho, Sem.run_bind, Sem.run_pure, List.map_toArray, List.map_cons, List.map_nil, hx, hy, hz, h, Result.andThen_ok]
theorem pool_size : (Tryz.prog.info? 83).map (·.size) = some 48 := by kernel_rfl
theorem poolV_one (mode : Int) (bS bB n : Nat) : (poolV mode (.slice (some ⟨bS, 0, none⟩) n n) (.slice (some ⟨bB, 0, none⟩) n n)).toArray.all (·.oneCell') = true := by kernel_rfl
def zeroP : Array Value := #[.int .i64 0, .slice none 0 0, .slice none 0 0, .slice none 0 0, .string ⟨#[]⟩, .slice none 0 0, .bool false, .int .i64 0, .slice none 0 0, .slice none 0 0, .string ⟨#[]⟩, .slice none 0 0, .bool false, .int .i64 0, .slice none 0 0, .slice none 0 0, .string ⟨#[]⟩, .slice none 0 0, .bool false, .int .i64 0, .slice none 0 0, .slice none 0 0, .string ⟨#[]⟩, .slice none 0 0, .bool false, .int .i64 0, .slice none 0 0, .slice none 0 0, .string ⟨#[]⟩, .slice none 0 0, .bool false, .int .i64 0, .slice none 0 0, .slice none 0 0, .string ⟨#[]⟩, .slice none 0 0, .bool false, .int .i64 0, .slice none 0 0, .slice none 0 0, .slice none 0 0, .slice none 0 0, .slice none 0 0, .slice none 0 0, .slice none 0 0, .slice none 0 0, .slice none 0 0, .slice none 0 0]
def zeroS (n : Nat) : Array Value := madeCells #[.int .i64 0, .slice none 0 0, .slice none 0 0, .slice none 0 0, .slice none 0 0] (n * 5)
def Made (w1 : World) (mode : Int) (n : Nat) (x y u : Nat) (wf : World) : Prop :=
 ∃ W, Below w1.heap.size w1 W ∧ W.heap[x]? = some (.cells (zeroS n) 115) ∧ W.heap[y]? = some (.cells (madeCells #[.bool false] n) 4) ∧ W.heap[u]? = some (.cells zeroP 83) ∧ x ≠ y ∧ x ≠ u ∧ y ≠ u ∧ w1.heap.size ≤ x ∧ w1.heap.size ≤ y ∧ w1.heap.size ≤ u ∧
  wf = W.setRow u (poolV mode (.slice (some ⟨x, 0, none⟩) n n) (.slice (some ⟨y, 0, none⟩) n n)).toArray
theorem Made.pmem {w1 wf : World} {mode : Int} {n x y u base : Nat} (h : Made w1 mode n x y u wf) (hn : n ≤ 8) (hb : base ≤ w1.heap.size) : PMem 0 wf base u (poolF mode (newSl x n) (newSl y n)) (startG u y) mode (Mach.start (poolStart n) n) ∧ Below w1.heap.size w1 wf := by
 obtain ⟨W, hB, hx, hy, hu, h1, h2, h3, l1, l2, l3, rfl⟩ := h
 have hrow : ∀ {g t : Nat} {cs : Array Value}, g ≠ u → W.heap[g]? = some (.cells cs t) → RowTo (W.setRow u (poolV mode (.slice (some ⟨x, 0, none⟩) n n) (.slice (some ⟨y, 0, none⟩) n n)).toArray) g t cs.size cs.toList := fun hg hc => ⟨_, (setRow_other W u _ _ hg).trans hc, rfl, by rw [List.take_of_length_le (by simp)]⟩
 have rS := hrow h2 hx
 have rB := hrow h3 hy
 have e1 : (zeroS n).size = n * 5 := by unfold zeroS; simp [madeCells]
 have e2 : (madeCells #[Value.bool false] n).size = n := by simp [madeCells]
 rw [e1] at rS
 rw [e2] at rB
 refine ⟨PMem.start hn mode rS rB ⟨_, setRow_heap W u zeroP _ _ _ hu, rfl, fun j hj => ?_⟩ h1 h2 h3 (by omega) (by omega), ?_⟩
 ·have hl : j < (poolV mode (.slice (some ⟨x, 0, none⟩) n n) (.slice (some ⟨y, 0, none⟩) n n)).length := hj
  rw [List.getElem?_toArray]
  unfold poolF newSl
  rw [List.getD_eq_getElem?_getD, List.getElem?_eq_getElem hl]
  rfl
 ·have hg := setRow_grown W u (poolV mode (.slice (some ⟨x, 0, none⟩) n n) (.slice (some ⟨y, 0, none⟩) n n)).toArray
  exact hB.grown hg hB.size (fun b hb => by injection hb with hb; omega)
theorem setup_of {mode s : Int} {l : List Act} (h : runE mode s l = 0) : 1 ≤ mode ∧ mode ≤ 3 ∧ 1 ≤ s ∧ s ≤ 4 ∧ l.length ≤ 300 ∧ actsE l = 0 := by
 unfold runE at h
 by_cases h0 : setupE mode s ≠ 0
 ·rw [if_pos h0] at h; exact absurd h h0
 ·rw [if_neg h0] at h
  have h0 : setupE mode s = 0 := Classical.byContradiction h0
  unfold setupE at h0
  by_cases h1 : mode < 1 ∨ 3 < mode
  ·rw [if_pos h1] at h0; cases h0
  ·rw [if_neg h1] at h0
   by_cases h2 : s < 1 ∨ 4 < s
   ·rw [if_pos h2] at h0; cases h0
   ·by_cases h3 : 300 < l.length
    ·rw [if_pos h3] at h; cases h
    ·rw [if_neg h3] at h
     exact ⟨by omega, by omega, by omega, by omega, by omega, h⟩
theorem run_take (o : Ops PE) (mode : Int) (m : Mach PE) {l : List Act} {k : Nat} (hk : k < l.length) : m.run o mode (l.take (k + 1)) = (m.run o mode (l.take k)).act o mode l[k] := by
 rw [List.take_succ_eq_append_getElem hk, run_app]; rfl
theorem acts_take {l : List Act} (h : actsE l = 0) (k : Nat) : actsE (l.take k) = 0 := by
 have : l = l.take k ++ l.drop k := (List.take_append_drop k l).symm
 rw [this] at h
 exact (actsE_app.1 h).1
theorem acts_at {l : List Act} (h : actsE l = 0) {k : Nat} (hk : k < l.length) : actE l[k] = 0 := by
 have h1 := acts_take h (k + 1)
 rw [List.take_succ_eq_append_getElem hk] at h1
 exact (actsE_cons (actsE_app.1 h1).2).1
def RunPost (w : World) (m : Mach PE) (e : Ending) (w' : World) : Prop := ∃ v1 v2 v3, e = .returned (.tuple #[.agg #[v1, v2, v3], .int .i64 0]) ∧ OutV w' v1 v2 v3 m.sent m.deeds m.e.w.rows ∧ Below w.heap.size w w'
def RunRel (w1 : World) (R P : Nat) (mode : Int) (m : Mach PE) (N : Nat) (wr : World) : Prop :=
 (∃ f G, PMem 0 wr w1.heap.size P f G mode m) ∧ Inv mode m N ∧ m.busy.length ≤ 8 ∧ Below w1.heap.size w1 wr
set_option maxHeartbeats 4000000 in
theorem run_any (mode srv : Int) (v : Value) (l : List Act) (w : World) (hl : ALst w w.heap.size v l) (hT : Tabs w w.heap.size) (hE : runE mode srv l = 0) :
  Calls Tryz.prog 7 #[.agg #[.int .i64 mode, .int .i64 srv], v] w (RunPost w ((Mach.start (poolStart srv.toNat) srv.toNat).run poolO mode l)) := by
 obtain ⟨hm1, hm3, hs1, hs4, hl300, hacts⟩ := setup_of hE
 obtain ⟨n, hn⟩ : ∃ n : Nat, srv = n := ⟨srv.toNat, by omega⟩
 subst hn
 rw [Int.toNat_natCast]
 have hn8 : n ≤ 8 := by omega
 have hn1 : 1 ≤ n := by omega
 have n0 := ((Below.refl w.heap.size w).alloc (nL _) (.cells #[.int .i64 mode, .int .i64 (n : Int)] 23)).alloc (by simp) (.cells #[.slice none 0 0, .slice none 0 0, .slice none 0 0] 29)
 have X1 := (RowTo.whole w #[.int .i64 mode, .int .i64 (n : Int)] 23).alloc (.cells #[.slice none 0 0, .slice none 0 0, .slice none 0 0] 29)
 have X2 := RowTo.whole (w.alloc (.cells #[.int .i64 mode, .int .i64 (n : Int)] 23)) #[.slice none 0 0, .slice none 0 0, .slice none 0 0] 29
 simp only [World.size_alloc] at X2
 obtain ⟨x0, x1⟩ := cells2 X1
 have HCR := hD (checkRun_any mode (n : Int) v l _ (hl.step n0))
 rw [hE] at HCR
 obtain ⟨A, cA, rfl, hcA⟩ := hl.form
 have HL := hD (hl.step n0)
 have HT := hD hT
 have HX := hD (And.intro X1 X2)
 have HN0 := hD n0
 have HAC := hD hacts
 have hz0 : ((w.alloc (.cells #[.int .i64 mode, .int .i64 (n : Int)] 23)).alloc (.cells #[.slice none 0 0, .slice none 0 0, .slice none 0 0] 29)).heap.size = w.heap.size + 1 + 1 := by simp
 clear hl hT hE hm1 hm3 hs1 hs4 n0 X1 X2 hacts
 go_enter Tryz.func7, Tryz.ntmps7
 go_wp2_with fail
 refine HCR.out.mono ?_
 rintro e w1 ⟨rfl, hb1⟩
 have hX1 := HX.out.1.below hb1 HX.out.1.lt
 have hX2 := HX.out.2.below hb1 HX.out.2.lt
 have hbw := bel_add' HN0.out hb1 HN0.out.size
 have hsz1 : w.heap.size + 1 + 1 ≤ w1.heap.size := by have := hb1.size; omega
 have hl1 := HL.out.step hb1
 obtain ⟨y0, y1⟩ := cells2 hX1
 have HX2 := hD hX2
 have HBW := hD hbw
 have HL1 := hD hl1
 have hXl : w.heap.size < w1.heap.size := by omega
 have HT1 := hD ((HT.out.below hbw).up hbw.size)
 have hmk1 : ∀ w : World, (Instr.makeSlice 37 (.int .i64 (n : Int)) (.int .i64 (n : Int))).run Tryz.prog w = .ok (.slice (some ⟨w.heap.size, 0, none⟩) n n) (w.alloc (.cells (zeroS n) 115)) := fun w => make_sess n (by omega) w
 have hmk2 := make_bool n hn8
 clear hb1 hX1 hX2 hbw hl1 HCR HX HN0 HL x0 x1 hz0 HT
 go_wp2_with fail
 refine wp_region_z 11 (fun wx => wx.cell? ⟨w.heap.size, 0, none⟩ = some (.int .i64 mode) ∧ wx.cell? ⟨w.heap.size, 1, none⟩ = some (.int .i64 (n : Int))) (by kernel_rfl) (show w1.drew.cell? ⟨w.heap.size, 0, none⟩ = some (.int .i64 mode) ∧ w1.drew.cell? ⟨w.heap.size, 1, none⟩ = some (.int .i64 (n : Int)) from ⟨y0, y1⟩) (fun hS => ?_)
 refine tkY 0 [1] ?va0 rfl ?ya0 hS ?ra0
 case ya0 => (intro w hSw; (try dsimp only at hSw); (try simp only [gTA, gCZ, gCS]); go_simp; try with_reducible rfl)
 (try simp only [gTA, gCZ, gCS, Act.put, sTA, sCZ, sCS])
 refine tkZ 1 ?va1 rfl ?ya1 hS ?ra1
 case ya1 => (intro w hSw; (try dsimp only at hSw); (try simp only [gTA, gCZ, gCS]); go_simp; try with_reducible rfl)
 (try simp only [gTA, gCZ, gCS, Act.put, sTA, sCZ, sCS])
 refine tkY 2 [3] ?va2 rfl ?ya2 hS ?ra2
 case ya2 => (intro w hSw; (try dsimp only at hSw); (try simp only [gTA, gCZ, gCS]); go_simp; try with_reducible rfl)
 (try simp only [gTA, gCZ, gCS, Act.put, sTA, sCZ, sCS])
 refine tkZ 3 ?va3 rfl ?ya3 hS ?ra3
 case ya3 => (intro w hSw; (try dsimp only at hSw); (try simp only [gTA, gCZ, gCS]); go_simp; try with_reducible rfl)
 (try simp only [gTA, gCZ, gCS, Act.put, sTA, sCZ, sCS])
 refine tkY 6 [7] ?va6 rfl ?ya6 hS ?ra6
 case ya6 => (intro w hSw; (try dsimp only at hSw); (try simp only [gTA, gCZ, gCS]); go_simp; try with_reducible rfl)
 (try simp only [gTA, gCZ, gCS, Act.put, sTA, sCZ, sCS])
 refine tkZ 7 ?va7 rfl ?ya7 hS ?ra7
 case ya7 => (intro w hSw; (try dsimp only at hSw); (try simp only [gTA, gCZ, gCS]); go_simp; try with_reducible rfl)
 (try simp only [gTA, gCZ, gCS, Act.put, sTA, sCZ, sCS])
 refine wpAnyZ_share (Made w1 mode n) (fun x => .slice (some ⟨x, 0, none⟩) n n) (fun x => .agg #[.slice none 0 0, .slice (some ⟨x, 0, none⟩) n n]) (fun x => .slice (some ⟨x, 0, none⟩) n n) (fun x => .pointer (some ⟨x, 0, none⟩)) (fun x y => .agg (poolV mode (.slice (some ⟨x, 0, none⟩) n n) (.slice (some ⟨y, 0, none⟩) n n)).toArray) ?fin (fun HK => ?tree)
 case fin =>
  intro bS bB P wf hF
  (try simp only [gTA, gCZ, gCS, Act.put, sTA, sCZ, sCS])
  obtain ⟨hM0, hB0⟩ := hF.pmem hn8 (nL w1.heap.size)
  have HR0 : Hid (RunRel w1 (w.heap.size + 1) P mode (Mach.start (poolStart n) n) 0 wf) := hD ⟨⟨_, _, hM0⟩, Inv.start hn8, by simp [Mach.start]; omega, hB0⟩
  clear hM0 hB0 hF hmk1 hmk2 hS
  generalize hm0 : Mach.start (poolStart n) n = m0 at *
  clear hm0
  go_wp2_with fail
  go_loopw [29] (fun i wr => ∃ k : Nat, k ≤ l.length ∧ i = .int .i64 k ∧ Hid (RunRel w1 (w.heap.size + 1) P mode (m0.run poolO mode (l.take k)) (1000 * k) wr)) (fun i _ => l.length - (intOf i).toNat)
  case atStart => exact ⟨0, by omega, rfl, HR0.out⟩
  case round =>
   obtain ⟨k, hk, rfl, HZ⟩ := hrel
   clear HR0
   by_cases hlt : k < l.length
   ·obtain ⟨⟨f, G, hM⟩, hI, hb8, hB⟩ := HZ.out
    have hA := HL1.out.below hB
    obtain ⟨b, off, rfl, hbl, c0, c1, c2⟩ := hA.pt hlt
    have hbr : b < wr.heap.size := Nat.lt_of_lt_of_le hbl hB.size
    have n1 := (Below.refl wr.heap.size wr).alloc (nL _) (.cells #[.int .i64 l[k].kind, .int .i64 l[k].c, .string l[k].data] 54)
    have hM1 := hM.below n1
    have hbase : w1.heap.size ≤ wr.heap.size := hB.size
    have hB1 := hB.trans (n1.mono hbase)
    have HP := hD (perform_any _ hM1 (HT1.out.below hB1) hI (by omega) l[k] (acts_at HAC.out hlt) hb8)
    rw [← run_take poolO mode m0 hlt] at HP
    have HI2 := hD (show Inv mode (m0.run poolO mode (l.take (k + 1))) (1000 * (k + 1)) by rw [run_take poolO mode m0 hlt]; exact (hI.act (acts_at HAC.out hlt)).mono (by omega))
    have hb82 : (m0.run poolO mode (l.take (k + 1))).busy.length ≤ 8 := by rw [run_take poolO mode m0 hlt, act_len]; exact hb8
    have HB1 := hD hB1
    have hkI : (k : Int) < (l.length : Int) := by omega
    unfold ptr at HP
    clear hM hI hB hA n1 hM1 hB1 HZ
    obtain ⟨m2, HM2⟩ : ∃ u, Hid (m0.run poolO mode (l.take (k + 1)) = u) := ⟨_, hD rfl⟩
    rw [HM2.out] at HP HI2 hb82
    generalize l[k].kind = ak at *
    generalize l[k].c = ac at *
    generalize l[k].data = ad at *
    go_wp2_with fail
    refine HP.out.mono ?_
    rintro e w3 ⟨f3, G3, rfl, hM3, hB3⟩
    have HF : Hid (RunRel w1 (w.heap.size + 1) P mode m2 (1000 * (k + 1)) w3) := hD ⟨⟨f3, G3, hM3⟩, HI2.out, hb82, HB1.out.trans hB3⟩
    clear hM3 hB3 HP
    go_wp2
    go_roundw
    case rel => exact ⟨k + 1, by omega, by go_num, by rw [HM2.out]; exact HF.out⟩
    case measure => simp [intOf]; omega
   ·obtain rfl : k = l.length := by omega
    obtain ⟨⟨f, G, hM⟩, hI, hb8, hB⟩ := HZ.out
    rw [List.take_length] at hM hI
    have HO := hD (outcome_any wr hM hI (by omega))
    have HB := hD hB
    have hbase : w1.heap.size ≤ wr.heap.size := hB.size
    have hRr := HX2.out.below hB (by omega)
    have HRr := hD hRr
    generalize m0.run poolO mode l = m2 at *
    unfold ptr at HO
    clear hM hI hB hRr HZ
    go_wp2_with fail
    refine HO.out.mono ?_
    rintro e w3 ⟨v1, v2, v3, rfl, hO, hB3⟩
    obtain ⟨A1, s1, rfl, _⟩ := hO.s.form
    obtain ⟨A2, s2, rfl, _⟩ := hO.d.form
    obtain ⟨A3, s3, rfl, _⟩ := hO.r.form
    have hR3 := HRr.out.below hB3 HRr.out.lt
    obtain ⟨r0, r1, r2⟩ := cells3 hR3
    have z0 := hR3.frozen 0
    have z1 := hR3.frozen 1
    have z2 := hR3.frozen 2
    have hRl := hR3.lt
    have hbel := HBW.out.trans ((HB.out.trans (hB3.mono hbase)).mono (show w.heap.size ≤ w1.heap.size by omega))
    have hBf := ((hbel.setCell (p := ⟨w.heap.size + 1, 0, none⟩) (by show w.heap.size ≤ w.heap.size + 1; omega) (.slice A1 m2.sent.length s1)).setCell (p := ⟨w.heap.size + 1, 1, none⟩) (by show w.heap.size ≤ w.heap.size + 1; omega) (.slice A2 m2.deeds.length s2)).setCell (p := ⟨w.heap.size + 1, 2, none⟩) (by show w.heap.size ≤ w.heap.size + 1; omega) (.slice A3 m2.e.w.rows.length s3)
    have hOff := OutV.off3 hO hR3 (.slice A1 m2.sent.length s1) (.slice A2 m2.deeds.length s2) (.slice A3 m2.e.w.rows.length s3)
    have hRf := ((hR3.put (j := 0) (by simp) (.slice A1 m2.sent.length s1)).put (j := 1) (by simp) (.slice A2 m2.deeds.length s2)).put (j := 2) (by simp) (.slice A3 m2.e.w.rows.length s3)
    have HF := hD (And.intro hOff (And.intro hBf hRf))
    clear hOff hBf hRf hbel hR3 hO hB3 HO
    generalize m2.sent.length = e1 at *
    generalize m2.deeds.length = e2 at *
    generalize m2.e.w.rows.length = e3 at *
    go_wp2
    obtain ⟨hO, hBB, hRow⟩ := HF.out
    obtain ⟨t0, t1, t2⟩ := cells3 hRow
    generalize ((w3.setCell ⟨w.heap.size + 1, 0, none⟩ (.slice A1 e1 s1)).setCell ⟨w.heap.size + 1, 1, none⟩ (.slice A2 e2 s2)).setCell ⟨w.heap.size + 1, 2, none⟩ (.slice A3 e3 s3) = WF at *
    refine bodyPost_ret (v := .tuple #[.agg #[.slice A1 e1 s1, .slice A2 e2 s2, .slice A3 e3 s3], .int .i64 0]) (by simp [results, Tryz.results7, go_sem, t0, t1, t2]) rfl ⟨_, _, _, rfl, hO, hBB⟩
 case tree =>
  refine wpAnyZ_many (is := [4, 8, 10]) (by kernel_rfl) (by simp) (fun i hi => ?_)
  simp only [List.mem_cons, List.not_mem_nil, or_false] at hi
  rcases hi with rfl | rfl | rfl
  ·refine ⟨_, rfl, rfl, fun K hK => ?_⟩
   (try simp only [gTA, gCZ, gCS])
   go_simp
   have hS2 := (show (w1.drew.alloc (.cells (zeroS n) 115)).cell? ⟨w.heap.size, 0, none⟩ = some (.int .i64 mode) ∧ (w1.drew.alloc (.cells (zeroS n) 115)).cell? ⟨w.heap.size, 1, none⟩ = some (.int .i64 (n : Int)) from ⟨((((Below.refl w1.heap.size w1).drew).alloc (by simp) (.cells (zeroS n) 115)).cell (p := ⟨w.heap.size, 0, none⟩) hXl).trans y0, ((((Below.refl w1.heap.size w1).drew).alloc (by simp) (.cells (zeroS n) 115)).cell (p := ⟨w.heap.size, 1, none⟩) hXl).trans y1⟩)
   refine hK.out _ _ hS2 ?_
   clear hK K hS
   have hS := hS2
   clear hS2
   (try simp only [gTA, gCZ, gCS, Act.put, sTA, sCZ, sCS])
   refine tkY 5 [9] ?vts5 rfl ?yts5 hS ?rts5
   case yts5 => (intro w hSw; (try dsimp only at hSw); (try simp only [gTA, gCZ, gCS]); go_simp; try with_reducible rfl)
   (try simp only [gTA, gCZ, gCS, Act.put, sTA, sCZ, sCS])
   refine wpAnyZ_many (is := [8, 10]) (by kernel_rfl) (by simp) (fun i hi => ?_)
   simp only [List.mem_cons, List.not_mem_nil, or_false] at hi
   rcases hi with rfl | rfl
   ·refine ⟨_, rfl, rfl, fun K hK => ?_⟩
    (try simp only [gTA, gCZ, gCS])
    go_simp
    have hS2 := (show ((w1.drew.alloc (.cells (zeroS n) 115)).alloc (.cells (madeCells #[.bool false] n) 4)).cell? ⟨w.heap.size, 0, none⟩ = some (.int .i64 mode) ∧ ((w1.drew.alloc (.cells (zeroS n) 115)).alloc (.cells (madeCells #[.bool false] n) 4)).cell? ⟨w.heap.size, 1, none⟩ = some (.int .i64 (n : Int)) from ⟨(((((Below.refl w1.heap.size w1).drew).alloc (by simp) (.cells (zeroS n) 115)).alloc (by simp) (.cells (madeCells #[.bool false] n) 4)).cell (p := ⟨w.heap.size, 0, none⟩) hXl).trans y0, (((((Below.refl w1.heap.size w1).drew).alloc (by simp) (.cells (zeroS n) 115)).alloc (by simp) (.cells (madeCells #[.bool false] n) 4)).cell (p := ⟨w.heap.size, 1, none⟩) hXl).trans y1⟩)
    refine hK.out _ _ hS2 ?_
    clear hK K hS
    have hS := hS2
    clear hS2
    (try simp only [gTA, gCZ, gCS, Act.put, sTA, sCZ, sCS])
    refine wpAnyZ_take (i := 9) (v := .agg (poolV mode (.slice (some ⟨w1.heap.size, 0, none⟩) n n) (.slice (some ⟨w1.heap.size + 1, 0, none⟩) n n)).toArray) rfl (by kernel_rfl) (by kernel_rfl) (by kernel_rfl) (by kernel_rfl) (fun _ _ _ h => h) (Or.inl ⟨by rfl, ?yusb9⟩) hS ?rusb9
    case yusb9 => exact fun w _ => exec_pool rfl rfl rfl rfl w
    (try simp only [gTA, gCZ, gCS, Act.put, sTA, sCZ, sCS])
    refine wpAnyZ_one (i := 10) rfl rfl (by kernel_rfl) (fun K hK => ?_)
    (try simp only [gTA, gCZ, gCS])
    go_simp
    have hS2 := (show (((w1.drew.alloc (.cells (zeroS n) 115)).alloc (.cells (madeCells #[.bool false] n) 4)).alloc (.cells zeroP 83)).cell? ⟨w.heap.size, 0, none⟩ = some (.int .i64 mode) ∧ (((w1.drew.alloc (.cells (zeroS n) 115)).alloc (.cells (madeCells #[.bool false] n) 4)).alloc (.cells zeroP 83)).cell? ⟨w.heap.size, 1, none⟩ = some (.int .i64 (n : Int)) from ⟨((((((Below.refl w1.heap.size w1).drew).alloc (by simp) (.cells (zeroS n) 115)).alloc (by simp) (.cells (madeCells #[.bool false] n) 4)).alloc (by simp; omega) (.cells zeroP 83)).cell (p := ⟨w.heap.size, 0, none⟩) hXl).trans y0, ((((((Below.refl w1.heap.size w1).drew).alloc (by simp) (.cells (zeroS n) 115)).alloc (by simp) (.cells (madeCells #[.bool false] n) 4)).alloc (by simp; omega) (.cells zeroP 83)).cell (p := ⟨w.heap.size, 1, none⟩) hXl).trans y1⟩)
    refine hK.out _ _ hS2 ?_
    clear hK K hS
    have hS := hS2
    clear hS2
    (try simp only [gTA, gCZ, gCS, Act.put, sTA, sCZ, sCS])
    refine wpAnyZ_last rfl rfl (by kernel_rfl) (by kernel_rfl) (fun K hK => ?_)
    (try simp only [gTA, gCZ, gCS])
    obtain ⟨g1, g2, g3, gB⟩ := three w1.drew (zeroS n) (madeCells #[.bool false] n) zeroP 115 4 83
    have hgP : ((((w1.drew.alloc (.cells (zeroS n) 115)).alloc (.cells (madeCells #[.bool false] n) 4)).alloc (.cells zeroP 83))).heap[w1.heap.size + 1 + 1]? = some (.cells zeroP 83) := g3
    refine wp_store_row 83 _ _ rfl (w1.heap.size + 1 + 1) (poolV mode (.slice (some ⟨w1.heap.size, 0, none⟩) n n) (.slice (some ⟨w1.heap.size + 1, 0, none⟩) n n)).toArray rfl rfl 83 zeroP hgP pool_size rfl (poolV_one mode _ _ n) ?_
    refine hK.out _ _ ?_
    clear hK K
    (try simp only [gTA, gCZ, gCS, Act.put, sTA, sCZ, sCS])
    have hk := HK.out (w1.heap.size) (w1.heap.size + 1) (w1.heap.size + 1 + 1) _ ⟨_, ((Below.refl w1.heap.size w1).drew).trans gB, g1, g2, hgP, by omega, by omega, by omega, by omega, by omega, by omega, rfl⟩
    (try simp only [gTA, gCZ, gCS, Act.put, sTA, sCZ, sCS] at hk)
    exact hk
   ·refine ⟨_, rfl, rfl, fun K hK => ?_⟩
    (try simp only [gTA, gCZ, gCS])
    go_simp
    have hS2 := (show ((w1.drew.alloc (.cells (zeroS n) 115)).alloc (.cells zeroP 83)).cell? ⟨w.heap.size, 0, none⟩ = some (.int .i64 mode) ∧ ((w1.drew.alloc (.cells (zeroS n) 115)).alloc (.cells zeroP 83)).cell? ⟨w.heap.size, 1, none⟩ = some (.int .i64 (n : Int)) from ⟨(((((Below.refl w1.heap.size w1).drew).alloc (by simp) (.cells (zeroS n) 115)).alloc (by simp) (.cells zeroP 83)).cell (p := ⟨w.heap.size, 0, none⟩) hXl).trans y0, (((((Below.refl w1.heap.size w1).drew).alloc (by simp) (.cells (zeroS n) 115)).alloc (by simp) (.cells zeroP 83)).cell (p := ⟨w.heap.size, 1, none⟩) hXl).trans y1⟩)
    refine hK.out _ _ hS2 ?_
    clear hK K hS
    have hS := hS2
    clear hS2
    (try simp only [gTA, gCZ, gCS, Act.put, sTA, sCZ, sCS])
    refine wpAnyZ_one (i := 8) rfl rfl (by kernel_rfl) (fun K hK => ?_)
    (try simp only [gTA, gCZ, gCS])
    go_simp
    have hS2 := (show (((w1.drew.alloc (.cells (zeroS n) 115)).alloc (.cells zeroP 83)).alloc (.cells (madeCells #[.bool false] n) 4)).cell? ⟨w.heap.size, 0, none⟩ = some (.int .i64 mode) ∧ (((w1.drew.alloc (.cells (zeroS n) 115)).alloc (.cells zeroP 83)).alloc (.cells (madeCells #[.bool false] n) 4)).cell? ⟨w.heap.size, 1, none⟩ = some (.int .i64 (n : Int)) from ⟨((((((Below.refl w1.heap.size w1).drew).alloc (by simp) (.cells (zeroS n) 115)).alloc (by simp) (.cells zeroP 83)).alloc (by simp; omega) (.cells (madeCells #[.bool false] n) 4)).cell (p := ⟨w.heap.size, 0, none⟩) hXl).trans y0, ((((((Below.refl w1.heap.size w1).drew).alloc (by simp) (.cells (zeroS n) 115)).alloc (by simp) (.cells zeroP 83)).alloc (by simp; omega) (.cells (madeCells #[.bool false] n) 4)).cell (p := ⟨w.heap.size, 1, none⟩) hXl).trans y1⟩)
    refine hK.out _ _ hS2 ?_
    clear hK K hS
    have hS := hS2
    clear hS2
    (try simp only [gTA, gCZ, gCS, Act.put, sTA, sCZ, sCS])
    refine wpAnyZ_take (i := 9) (v := .agg (poolV mode (.slice (some ⟨w1.heap.size, 0, none⟩) n n) (.slice (some ⟨w1.heap.size + 1 + 1, 0, none⟩) n n)).toArray) rfl (by kernel_rfl) (by kernel_rfl) (by kernel_rfl) (by kernel_rfl) (fun _ _ _ h => h) (Or.inl ⟨by rfl, ?yuspb9⟩) hS ?ruspb9
    case yuspb9 => exact fun w _ => exec_pool rfl rfl rfl rfl w
    (try simp only [gTA, gCZ, gCS, Act.put, sTA, sCZ, sCS])
    refine wpAnyZ_last rfl rfl (by kernel_rfl) (by kernel_rfl) (fun K hK => ?_)
    (try simp only [gTA, gCZ, gCS])
    obtain ⟨g1, g2, g3, gB⟩ := three w1.drew (zeroS n) zeroP (madeCells #[.bool false] n) 115 83 4
    have hgP : ((((w1.drew.alloc (.cells (zeroS n) 115)).alloc (.cells zeroP 83)).alloc (.cells (madeCells #[.bool false] n) 4))).heap[w1.heap.size + 1]? = some (.cells zeroP 83) := g2
    refine wp_store_row 83 _ _ rfl (w1.heap.size + 1) (poolV mode (.slice (some ⟨w1.heap.size, 0, none⟩) n n) (.slice (some ⟨w1.heap.size + 1 + 1, 0, none⟩) n n)).toArray rfl rfl 83 zeroP hgP pool_size rfl (poolV_one mode _ _ n) ?_
    refine hK.out _ _ ?_
    clear hK K
    (try simp only [gTA, gCZ, gCS, Act.put, sTA, sCZ, sCS])
    have hk := HK.out (w1.heap.size) (w1.heap.size + 1 + 1) (w1.heap.size + 1) _ ⟨_, ((Below.refl w1.heap.size w1).drew).trans gB, g1, g3, hgP, by omega, by omega, by omega, by omega, by omega, by omega, rfl⟩
    (try simp only [gTA, gCZ, gCS, Act.put, sTA, sCZ, sCS] at hk)
    exact hk
  ·refine ⟨_, rfl, rfl, fun K hK => ?_⟩
   (try simp only [gTA, gCZ, gCS])
   go_simp
   have hS2 := (show (w1.drew.alloc (.cells (madeCells #[.bool false] n) 4)).cell? ⟨w.heap.size, 0, none⟩ = some (.int .i64 mode) ∧ (w1.drew.alloc (.cells (madeCells #[.bool false] n) 4)).cell? ⟨w.heap.size, 1, none⟩ = some (.int .i64 (n : Int)) from ⟨((((Below.refl w1.heap.size w1).drew).alloc (by simp) (.cells (madeCells #[.bool false] n) 4)).cell (p := ⟨w.heap.size, 0, none⟩) hXl).trans y0, ((((Below.refl w1.heap.size w1).drew).alloc (by simp) (.cells (madeCells #[.bool false] n) 4)).cell (p := ⟨w.heap.size, 1, none⟩) hXl).trans y1⟩)
   refine hK.out _ _ hS2 ?_
   clear hK K hS
   have hS := hS2
   clear hS2
   (try simp only [gTA, gCZ, gCS, Act.put, sTA, sCZ, sCS])
   refine wpAnyZ_many (is := [4, 10]) (by kernel_rfl) (by simp) (fun i hi => ?_)
   simp only [List.mem_cons, List.not_mem_nil, or_false] at hi
   rcases hi with rfl | rfl
   ·refine ⟨_, rfl, rfl, fun K hK => ?_⟩
    (try simp only [gTA, gCZ, gCS])
    go_simp
    have hS2 := (show ((w1.drew.alloc (.cells (madeCells #[.bool false] n) 4)).alloc (.cells (zeroS n) 115)).cell? ⟨w.heap.size, 0, none⟩ = some (.int .i64 mode) ∧ ((w1.drew.alloc (.cells (madeCells #[.bool false] n) 4)).alloc (.cells (zeroS n) 115)).cell? ⟨w.heap.size, 1, none⟩ = some (.int .i64 (n : Int)) from ⟨(((((Below.refl w1.heap.size w1).drew).alloc (by simp) (.cells (madeCells #[.bool false] n) 4)).alloc (by simp) (.cells (zeroS n) 115)).cell (p := ⟨w.heap.size, 0, none⟩) hXl).trans y0, (((((Below.refl w1.heap.size w1).drew).alloc (by simp) (.cells (madeCells #[.bool false] n) 4)).alloc (by simp) (.cells (zeroS n) 115)).cell (p := ⟨w.heap.size, 1, none⟩) hXl).trans y1⟩)
    refine hK.out _ _ hS2 ?_
    clear hK K hS
    have hS := hS2
    clear hS2
    (try simp only [gTA, gCZ, gCS, Act.put, sTA, sCZ, sCS])
    refine tkY 5 [9] ?vtbs5 rfl ?ytbs5 hS ?rtbs5
    case ytbs5 => (intro w hSw; (try dsimp only at hSw); (try simp only [gTA, gCZ, gCS]); go_simp; try with_reducible rfl)
    (try simp only [gTA, gCZ, gCS, Act.put, sTA, sCZ, sCS])
    refine wpAnyZ_take (i := 9) (v := .agg (poolV mode (.slice (some ⟨w1.heap.size + 1, 0, none⟩) n n) (.slice (some ⟨w1.heap.size, 0, none⟩) n n)).toArray) rfl (by kernel_rfl) (by kernel_rfl) (by kernel_rfl) (by kernel_rfl) (fun _ _ _ h => h) (Or.inl ⟨by rfl, ?yubs9⟩) hS ?rubs9
    case yubs9 => exact fun w _ => exec_pool rfl rfl rfl rfl w
    (try simp only [gTA, gCZ, gCS, Act.put, sTA, sCZ, sCS])
    refine wpAnyZ_one (i := 10) rfl rfl (by kernel_rfl) (fun K hK => ?_)
    (try simp only [gTA, gCZ, gCS])
    go_simp
    have hS2 := (show (((w1.drew.alloc (.cells (madeCells #[.bool false] n) 4)).alloc (.cells (zeroS n) 115)).alloc (.cells zeroP 83)).cell? ⟨w.heap.size, 0, none⟩ = some (.int .i64 mode) ∧ (((w1.drew.alloc (.cells (madeCells #[.bool false] n) 4)).alloc (.cells (zeroS n) 115)).alloc (.cells zeroP 83)).cell? ⟨w.heap.size, 1, none⟩ = some (.int .i64 (n : Int)) from ⟨((((((Below.refl w1.heap.size w1).drew).alloc (by simp) (.cells (madeCells #[.bool false] n) 4)).alloc (by simp) (.cells (zeroS n) 115)).alloc (by simp; omega) (.cells zeroP 83)).cell (p := ⟨w.heap.size, 0, none⟩) hXl).trans y0, ((((((Below.refl w1.heap.size w1).drew).alloc (by simp) (.cells (madeCells #[.bool false] n) 4)).alloc (by simp) (.cells (zeroS n) 115)).alloc (by simp; omega) (.cells zeroP 83)).cell (p := ⟨w.heap.size, 1, none⟩) hXl).trans y1⟩)
    refine hK.out _ _ hS2 ?_
    clear hK K hS
    have hS := hS2
    clear hS2
    (try simp only [gTA, gCZ, gCS, Act.put, sTA, sCZ, sCS])
    refine wpAnyZ_last rfl rfl (by kernel_rfl) (by kernel_rfl) (fun K hK => ?_)
    (try simp only [gTA, gCZ, gCS])
    obtain ⟨g1, g2, g3, gB⟩ := three w1.drew (madeCells #[.bool false] n) (zeroS n) zeroP 4 115 83
    have hgP : ((((w1.drew.alloc (.cells (madeCells #[.bool false] n) 4)).alloc (.cells (zeroS n) 115)).alloc (.cells zeroP 83))).heap[w1.heap.size + 1 + 1]? = some (.cells zeroP 83) := g3
    refine wp_store_row 83 _ _ rfl (w1.heap.size + 1 + 1) (poolV mode (.slice (some ⟨w1.heap.size + 1, 0, none⟩) n n) (.slice (some ⟨w1.heap.size, 0, none⟩) n n)).toArray rfl rfl 83 zeroP hgP pool_size rfl (poolV_one mode _ _ n) ?_
    refine hK.out _ _ ?_
    clear hK K
    (try simp only [gTA, gCZ, gCS, Act.put, sTA, sCZ, sCS])
    have hk := HK.out (w1.heap.size + 1) (w1.heap.size) (w1.heap.size + 1 + 1) _ ⟨_, ((Below.refl w1.heap.size w1).drew).trans gB, g2, g1, hgP, by omega, by omega, by omega, by omega, by omega, by omega, rfl⟩
    (try simp only [gTA, gCZ, gCS, Act.put, sTA, sCZ, sCS] at hk)
    exact hk
   ·refine ⟨_, rfl, rfl, fun K hK => ?_⟩
    (try simp only [gTA, gCZ, gCS])
    go_simp
    have hS2 := (show ((w1.drew.alloc (.cells (madeCells #[.bool false] n) 4)).alloc (.cells zeroP 83)).cell? ⟨w.heap.size, 0, none⟩ = some (.int .i64 mode) ∧ ((w1.drew.alloc (.cells (madeCells #[.bool false] n) 4)).alloc (.cells zeroP 83)).cell? ⟨w.heap.size, 1, none⟩ = some (.int .i64 (n : Int)) from ⟨(((((Below.refl w1.heap.size w1).drew).alloc (by simp) (.cells (madeCells #[.bool false] n) 4)).alloc (by simp) (.cells zeroP 83)).cell (p := ⟨w.heap.size, 0, none⟩) hXl).trans y0, (((((Below.refl w1.heap.size w1).drew).alloc (by simp) (.cells (madeCells #[.bool false] n) 4)).alloc (by simp) (.cells zeroP 83)).cell (p := ⟨w.heap.size, 1, none⟩) hXl).trans y1⟩)
    refine hK.out _ _ hS2 ?_
    clear hK K hS
    have hS := hS2
    clear hS2
    (try simp only [gTA, gCZ, gCS, Act.put, sTA, sCZ, sCS])
    refine wpAnyZ_one (i := 4) rfl rfl (by kernel_rfl) (fun K hK => ?_)
    (try simp only [gTA, gCZ, gCS])
    go_simp
    have hS2 := (show (((w1.drew.alloc (.cells (madeCells #[.bool false] n) 4)).alloc (.cells zeroP 83)).alloc (.cells (zeroS n) 115)).cell? ⟨w.heap.size, 0, none⟩ = some (.int .i64 mode) ∧ (((w1.drew.alloc (.cells (madeCells #[.bool false] n) 4)).alloc (.cells zeroP 83)).alloc (.cells (zeroS n) 115)).cell? ⟨w.heap.size, 1, none⟩ = some (.int .i64 (n : Int)) from ⟨((((((Below.refl w1.heap.size w1).drew).alloc (by simp) (.cells (madeCells #[.bool false] n) 4)).alloc (by simp) (.cells zeroP 83)).alloc (by simp; omega) (.cells (zeroS n) 115)).cell (p := ⟨w.heap.size, 0, none⟩) hXl).trans y0, ((((((Below.refl w1.heap.size w1).drew).alloc (by simp) (.cells (madeCells #[.bool false] n) 4)).alloc (by simp) (.cells zeroP 83)).alloc (by simp; omega) (.cells (zeroS n) 115)).cell (p := ⟨w.heap.size, 1, none⟩) hXl).trans y1⟩)
    refine hK.out _ _ hS2 ?_
    clear hK K hS
    have hS := hS2
    clear hS2
    (try simp only [gTA, gCZ, gCS, Act.put, sTA, sCZ, sCS])
    refine tkY 5 [9] ?vtbps5 rfl ?ytbps5 hS ?rtbps5
    case ytbps5 => (intro w hSw; (try dsimp only at hSw); (try simp only [gTA, gCZ, gCS]); go_simp; try with_reducible rfl)
    (try simp only [gTA, gCZ, gCS, Act.put, sTA, sCZ, sCS])
    refine wpAnyZ_take (i := 9) (v := .agg (poolV mode (.slice (some ⟨w1.heap.size + 1 + 1, 0, none⟩) n n) (.slice (some ⟨w1.heap.size, 0, none⟩) n n)).toArray) rfl (by kernel_rfl) (by kernel_rfl) (by kernel_rfl) (by kernel_rfl) (fun _ _ _ h => h) (Or.inl ⟨by rfl, ?yubps9⟩) hS ?rubps9
    case yubps9 => exact fun w _ => exec_pool rfl rfl rfl rfl w
    (try simp only [gTA, gCZ, gCS, Act.put, sTA, sCZ, sCS])
    refine wpAnyZ_last rfl rfl (by kernel_rfl) (by kernel_rfl) (fun K hK => ?_)
    (try simp only [gTA, gCZ, gCS])
    obtain ⟨g1, g2, g3, gB⟩ := three w1.drew (madeCells #[.bool false] n) zeroP (zeroS n) 4 83 115
    have hgP : ((((w1.drew.alloc (.cells (madeCells #[.bool false] n) 4)).alloc (.cells zeroP 83)).alloc (.cells (zeroS n) 115))).heap[w1.heap.size + 1]? = some (.cells zeroP 83) := g2
    refine wp_store_row 83 _ _ rfl (w1.heap.size + 1) (poolV mode (.slice (some ⟨w1.heap.size + 1 + 1, 0, none⟩) n n) (.slice (some ⟨w1.heap.size, 0, none⟩) n n)).toArray rfl rfl 83 zeroP hgP pool_size rfl (poolV_one mode _ _ n) ?_
    refine hK.out _ _ ?_
    clear hK K
    (try simp only [gTA, gCZ, gCS, Act.put, sTA, sCZ, sCS])
    have hk := HK.out (w1.heap.size + 1 + 1) (w1.heap.size) (w1.heap.size + 1) _ ⟨_, ((Below.refl w1.heap.size w1).drew).trans gB, g3, g1, hgP, by omega, by omega, by omega, by omega, by omega, by omega, rfl⟩
    (try simp only [gTA, gCZ, gCS, Act.put, sTA, sCZ, sCS] at hk)
    exact hk
  ·refine ⟨_, rfl, rfl, fun K hK => ?_⟩
   (try simp only [gTA, gCZ, gCS])
   go_simp
   have hS2 := (show (w1.drew.alloc (.cells zeroP 83)).cell? ⟨w.heap.size, 0, none⟩ = some (.int .i64 mode) ∧ (w1.drew.alloc (.cells zeroP 83)).cell? ⟨w.heap.size, 1, none⟩ = some (.int .i64 (n : Int)) from ⟨((((Below.refl w1.heap.size w1).drew).alloc (by simp) (.cells zeroP 83)).cell (p := ⟨w.heap.size, 0, none⟩) hXl).trans y0, ((((Below.refl w1.heap.size w1).drew).alloc (by simp) (.cells zeroP 83)).cell (p := ⟨w.heap.size, 1, none⟩) hXl).trans y1⟩)
   refine hK.out _ _ hS2 ?_
   clear hK K hS
   have hS := hS2
   clear hS2
   (try simp only [gTA, gCZ, gCS, Act.put, sTA, sCZ, sCS])
   refine wpAnyZ_many (is := [4, 8]) (by kernel_rfl) (by simp) (fun i hi => ?_)
   simp only [List.mem_cons, List.not_mem_nil, or_false] at hi
   rcases hi with rfl | rfl
   ·refine ⟨_, rfl, rfl, fun K hK => ?_⟩
    (try simp only [gTA, gCZ, gCS])
    go_simp
    have hS2 := (show ((w1.drew.alloc (.cells zeroP 83)).alloc (.cells (zeroS n) 115)).cell? ⟨w.heap.size, 0, none⟩ = some (.int .i64 mode) ∧ ((w1.drew.alloc (.cells zeroP 83)).alloc (.cells (zeroS n) 115)).cell? ⟨w.heap.size, 1, none⟩ = some (.int .i64 (n : Int)) from ⟨(((((Below.refl w1.heap.size w1).drew).alloc (by simp) (.cells zeroP 83)).alloc (by simp) (.cells (zeroS n) 115)).cell (p := ⟨w.heap.size, 0, none⟩) hXl).trans y0, (((((Below.refl w1.heap.size w1).drew).alloc (by simp) (.cells zeroP 83)).alloc (by simp) (.cells (zeroS n) 115)).cell (p := ⟨w.heap.size, 1, none⟩) hXl).trans y1⟩)
    refine hK.out _ _ hS2 ?_
    clear hK K hS
    have hS := hS2
    clear hS2
    (try simp only [gTA, gCZ, gCS, Act.put, sTA, sCZ, sCS])
    refine tkY 5 [9] ?vtps5 rfl ?ytps5 hS ?rtps5
    case ytps5 => (intro w hSw; (try dsimp only at hSw); (try simp only [gTA, gCZ, gCS]); go_simp; try with_reducible rfl)
    (try simp only [gTA, gCZ, gCS, Act.put, sTA, sCZ, sCS])
    refine wpAnyZ_one (i := 8) rfl rfl (by kernel_rfl) (fun K hK => ?_)
    (try simp only [gTA, gCZ, gCS])
    go_simp
    have hS2 := (show (((w1.drew.alloc (.cells zeroP 83)).alloc (.cells (zeroS n) 115)).alloc (.cells (madeCells #[.bool false] n) 4)).cell? ⟨w.heap.size, 0, none⟩ = some (.int .i64 mode) ∧ (((w1.drew.alloc (.cells zeroP 83)).alloc (.cells (zeroS n) 115)).alloc (.cells (madeCells #[.bool false] n) 4)).cell? ⟨w.heap.size, 1, none⟩ = some (.int .i64 (n : Int)) from ⟨((((((Below.refl w1.heap.size w1).drew).alloc (by simp) (.cells zeroP 83)).alloc (by simp) (.cells (zeroS n) 115)).alloc (by simp; omega) (.cells (madeCells #[.bool false] n) 4)).cell (p := ⟨w.heap.size, 0, none⟩) hXl).trans y0, ((((((Below.refl w1.heap.size w1).drew).alloc (by simp) (.cells zeroP 83)).alloc (by simp) (.cells (zeroS n) 115)).alloc (by simp; omega) (.cells (madeCells #[.bool false] n) 4)).cell (p := ⟨w.heap.size, 1, none⟩) hXl).trans y1⟩)
    refine hK.out _ _ hS2 ?_
    clear hK K hS
    have hS := hS2
    clear hS2
    (try simp only [gTA, gCZ, gCS, Act.put, sTA, sCZ, sCS])
    refine wpAnyZ_take (i := 9) (v := .agg (poolV mode (.slice (some ⟨w1.heap.size + 1, 0, none⟩) n n) (.slice (some ⟨w1.heap.size + 1 + 1, 0, none⟩) n n)).toArray) rfl (by kernel_rfl) (by kernel_rfl) (by kernel_rfl) (by kernel_rfl) (fun _ _ _ h => h) (Or.inl ⟨by rfl, ?yupsb9⟩) hS ?rupsb9
    case yupsb9 => exact fun w _ => exec_pool rfl rfl rfl rfl w
    (try simp only [gTA, gCZ, gCS, Act.put, sTA, sCZ, sCS])
    refine wpAnyZ_last rfl rfl (by kernel_rfl) (by kernel_rfl) (fun K hK => ?_)
    (try simp only [gTA, gCZ, gCS])
    obtain ⟨g1, g2, g3, gB⟩ := three w1.drew zeroP (zeroS n) (madeCells #[.bool false] n) 83 115 4
    have hgP : ((((w1.drew.alloc (.cells zeroP 83)).alloc (.cells (zeroS n) 115)).alloc (.cells (madeCells #[.bool false] n) 4))).heap[w1.heap.size]? = some (.cells zeroP 83) := g1
    refine wp_store_row 83 _ _ rfl (w1.heap.size) (poolV mode (.slice (some ⟨w1.heap.size + 1, 0, none⟩) n n) (.slice (some ⟨w1.heap.size + 1 + 1, 0, none⟩) n n)).toArray rfl rfl 83 zeroP hgP pool_size rfl (poolV_one mode _ _ n) ?_
    refine hK.out _ _ ?_
    clear hK K
    (try simp only [gTA, gCZ, gCS, Act.put, sTA, sCZ, sCS])
    have hk := HK.out (w1.heap.size + 1) (w1.heap.size + 1 + 1) (w1.heap.size) _ ⟨_, ((Below.refl w1.heap.size w1).drew).trans gB, g2, g3, hgP, by omega, by omega, by omega, by omega, by omega, by omega, rfl⟩
    (try simp only [gTA, gCZ, gCS, Act.put, sTA, sCZ, sCS] at hk)
    exact hk
   ·refine ⟨_, rfl, rfl, fun K hK => ?_⟩
    (try simp only [gTA, gCZ, gCS])
    go_simp
    have hS2 := (show ((w1.drew.alloc (.cells zeroP 83)).alloc (.cells (madeCells #[.bool false] n) 4)).cell? ⟨w.heap.size, 0, none⟩ = some (.int .i64 mode) ∧ ((w1.drew.alloc (.cells zeroP 83)).alloc (.cells (madeCells #[.bool false] n) 4)).cell? ⟨w.heap.size, 1, none⟩ = some (.int .i64 (n : Int)) from ⟨(((((Below.refl w1.heap.size w1).drew).alloc (by simp) (.cells zeroP 83)).alloc (by simp) (.cells (madeCells #[.bool false] n) 4)).cell (p := ⟨w.heap.size, 0, none⟩) hXl).trans y0, (((((Below.refl w1.heap.size w1).drew).alloc (by simp) (.cells zeroP 83)).alloc (by simp) (.cells (madeCells #[.bool false] n) 4)).cell (p := ⟨w.heap.size, 1, none⟩) hXl).trans y1⟩)
    refine hK.out _ _ hS2 ?_
    clear hK K hS
    have hS := hS2
    clear hS2
    (try simp only [gTA, gCZ, gCS, Act.put, sTA, sCZ, sCS])
    refine wpAnyZ_one (i := 4) rfl rfl (by kernel_rfl) (fun K hK => ?_)
    (try simp only [gTA, gCZ, gCS])
    go_simp
    have hS2 := (show (((w1.drew.alloc (.cells zeroP 83)).alloc (.cells (madeCells #[.bool false] n) 4)).alloc (.cells (zeroS n) 115)).cell? ⟨w.heap.size, 0, none⟩ = some (.int .i64 mode) ∧ (((w1.drew.alloc (.cells zeroP 83)).alloc (.cells (madeCells #[.bool false] n) 4)).alloc (.cells (zeroS n) 115)).cell? ⟨w.heap.size, 1, none⟩ = some (.int .i64 (n : Int)) from ⟨((((((Below.refl w1.heap.size w1).drew).alloc (by simp) (.cells zeroP 83)).alloc (by simp) (.cells (madeCells #[.bool false] n) 4)).alloc (by simp; omega) (.cells (zeroS n) 115)).cell (p := ⟨w.heap.size, 0, none⟩) hXl).trans y0, ((((((Below.refl w1.heap.size w1).drew).alloc (by simp) (.cells zeroP 83)).alloc (by simp) (.cells (madeCells #[.bool false] n) 4)).alloc (by simp; omega) (.cells (zeroS n) 115)).cell (p := ⟨w.heap.size, 1, none⟩) hXl).trans y1⟩)
    refine hK.out _ _ hS2 ?_
    clear hK K hS
    have hS := hS2
    clear hS2
    (try simp only [gTA, gCZ, gCS, Act.put, sTA, sCZ, sCS])
    refine tkY 5 [9] ?vtpbs5 rfl ?ytpbs5 hS ?rtpbs5
    case ytpbs5 => (intro w hSw; (try dsimp only at hSw); (try simp only [gTA, gCZ, gCS]); go_simp; try with_reducible rfl)
    (try simp only [gTA, gCZ, gCS, Act.put, sTA, sCZ, sCS])
    refine wpAnyZ_take (i := 9) (v := .agg (poolV mode (.slice (some ⟨w1.heap.size + 1 + 1, 0, none⟩) n n) (.slice (some ⟨w1.heap.size + 1, 0, none⟩) n n)).toArray) rfl (by kernel_rfl) (by kernel_rfl) (by kernel_rfl) (by kernel_rfl) (fun _ _ _ h => h) (Or.inl ⟨by rfl, ?yupbs9⟩) hS ?rupbs9
    case yupbs9 => exact fun w _ => exec_pool rfl rfl rfl rfl w
    (try simp only [gTA, gCZ, gCS, Act.put, sTA, sCZ, sCS])
    refine wpAnyZ_last rfl rfl (by kernel_rfl) (by kernel_rfl) (fun K hK => ?_)
    (try simp only [gTA, gCZ, gCS])
    obtain ⟨g1, g2, g3, gB⟩ := three w1.drew zeroP (madeCells #[.bool false] n) (zeroS n) 83 4 115
    have hgP : ((((w1.drew.alloc (.cells zeroP 83)).alloc (.cells (madeCells #[.bool false] n) 4)).alloc (.cells (zeroS n) 115))).heap[w1.heap.size]? = some (.cells zeroP 83) := g1
    refine wp_store_row 83 _ _ rfl (w1.heap.size) (poolV mode (.slice (some ⟨w1.heap.size + 1 + 1, 0, none⟩) n n) (.slice (some ⟨w1.heap.size + 1, 0, none⟩) n n)).toArray rfl rfl 83 zeroP hgP pool_size rfl (poolV_one mode _ _ n) ?_
    refine hK.out _ _ ?_
    clear hK K
    (try simp only [gTA, gCZ, gCS, Act.put, sTA, sCZ, sCS])
    have hk := HK.out (w1.heap.size + 1 + 1) (w1.heap.size + 1) (w1.heap.size) _ ⟨_, ((Below.refl w1.heap.size w1).drew).trans gB, g3, g2, hgP, by omega, by omega, by omega, by omega, by omega, by omega, rfl⟩
    (try simp only [gTA, gCZ, gCS, Act.put, sTA, sCZ, sCS] at hk)
    exact hk
end Go.Proofs.YtpbaobmegomfpabGreatDoor
namespace Go.Proofs.YtpbaobmegomfpabGreatDoor
open Go.RowKit
theorem cellDr {w : World} {p : Addr} {v : Value} (h : w.cell? p = some v) : w.drew.cell? p = some v := h
def SlOnly (w : World) (R : Nat) : Prop := ∀ o u, w.cell? ⟨R, o, none⟩ = some u → ∃ A n c, u = .slice A n c
theorem slOnly3 {w : World} {R t : Nat} {a b c : Option Addr} {n1 n2 n3 c1 c2 c3 : Nat} (h : RowTo w R t 3 [.slice a n1 c1, .slice b n2 c2, .slice c n3 c3]) : SlOnly w R := fun o u hu => by
 obtain ⟨r0, r1, r2⟩ := cells3 h
 rcases Nat.lt_or_ge o 3 with hj | hj
 ·obtain rfl | rfl | rfl : o = 0 ∨ o = 1 ∨ o = 2 := by omega
  ·rw [r0] at hu; injection hu with hu; exact ⟨_, _, _, hu.symm⟩
  ·rw [r1] at hu; injection hu with hu; exact ⟨_, _, _, hu.symm⟩
  ·rw [r2] at hu; injection hu with hu; exact ⟨_, _, _, hu.symm⟩
 ·rw [h.out_ hj] at hu; cases hu
theorem SlOnly.str {w : World} {R o : Nat} (h : SlOnly w R) {s : ByteArray} (hc : w.cell? ⟨R, o, none⟩ = some (.string s)) : False := by
 obtain ⟨A, n, c, e⟩ := h _ _ hc; cases e
theorem SlOnly.int {w : World} {R o : Nat} (h : SlOnly w R) {k : IntKind} {s : Int} (hc : w.cell? ⟨R, o, none⟩ = some (.int k s)) : False := by
 obtain ⟨A, n, c, e⟩ := h _ _ hc; cases e
theorem OutV.off {w w' : World} {R : Nat} {v1 v2 v3 : Value} {sent : List ByteArray} {deeds : List Deed} {rows : PL} (h : OutV w v1 v2 v3 sent deeds rows) (hR : SlOnly w R) (hs : w'.heap.size = w.heap.size) (hk : ∀ b, b ≠ R → w'.heap[b]? = w.heap[b]?) : OutV w' v1 v2 v3 sent deeds rows := by
 refine ⟨⟨h.s.form, h.s.small, h.s.sizes, fun hn => ?_⟩, ⟨h.d.form, h.d.small, fun hn => ?_⟩, ?_⟩
 ·obtain ⟨b, off, c, e, hb, hc⟩ := h.s.cells hn
  have hne : b ≠ R := by rintro rfl; exact hR.str (hc 0 hn)
  exact ⟨b, off, c, e, by rw [hs]; exact hb, fun i hi => (World.cell?_of_block (hk b hne)).trans (hc i hi)⟩
 ·obtain ⟨b, off, c, e, hb, hc⟩ := h.d.cells hn
  have hne : b ≠ R := by rintro rfl; exact hR.int (hc 0 hn 0 _ rfl)
  exact ⟨b, off, c, e, by rw [hs]; exact hb, fun i hi j u hu => (World.cell?_of_block (hk b hne)).trans (hc i hi j u hu)⟩
 ·rw [hs]
  exact h.r.offN (fun o s _ h1 _ => hR.str h1) hk
def ranM (mode : Int) (n : Nat) (l : List Act) : Mach PE := (Mach.start (poolStart n) n).run poolO mode l
theorem ran_sent (mode : Int) {n : Nat} (hn : n ≤ 8) {l : List Act} (hl : actsE l = 0) : (ranM mode n l).sent.length = 6 := ((start_ok (poolStart n) n mode).run hl).s6
def PlayedPost (w : World) (m : Mach PE) (e : Ending) (w' : World) : Prop := ∃ v1 v2 v3, e = .returned (.tuple #[.agg #[v1, v2, v3], .bool true]) ∧ OutV w' v1 v2 v3 m.sent m.deeds m.e.w.rows ∧ Below w.heap.size w w'
set_option maxHeartbeats 2000000 in
theorem playedT_any (mode srv : Int) (v : Value) (l : List Act) (w : World) (hl : ALst w w.heap.size v l) (hT : Tabs w w.heap.size) (hE : runE mode srv l = 0) :
  Calls Tryz.prog 21 #[.agg #[.int .i64 mode, .int .i64 srv], v] w (PlayedPost w (ranM mode srv.toNat l)) := by
 obtain ⟨h1, h2, h3, h4, h5, h6⟩ := setup_of hE
 have hs := ran_sent mode (n := srv.toNat) (by omega) h6
 have n0 := ((Below.refl w.heap.size w).alloc (nL _) (.cells #[.int .i64 mode, .int .i64 srv] 23)).alloc (by simp) (.cells #[.slice none 0 0, .slice none 0 0, .slice none 0 0] 29)
 have X1 := (RowTo.whole w #[.int .i64 mode, .int .i64 srv] 23).alloc (.cells #[.slice none 0 0, .slice none 0 0, .slice none 0 0] 29)
 have X2 := RowTo.whole (w.alloc (.cells #[.int .i64 mode, .int .i64 srv] 23)) #[.slice none 0 0, .slice none 0 0, .slice none 0 0] 29
 simp only [World.size_alloc] at X2
 have HR : Hid (Calls Tryz.prog 7 #[.agg #[.int .i64 mode, .int .i64 srv], v] _ (RunPost _ (ranM mode srv.toNat l))) := hD (run_any mode srv v l _ (hl.step n0) ((hT.below (n0.mono (nL _))).up n0.size) hE)
 obtain ⟨A, cA, rfl, hcA⟩ := hl.form
 generalize ranM mode srv.toNat l = m at *
 have HX2 := hD X2
 have HN0 := hD n0
 obtain ⟨x0, x1⟩ := cells2 X1
 clear hl hT hE h1 h2 h3 h4 h5 h6 X1 X2 n0 hcA
 go_enter Tryz.func21, Tryz.ntmps21
 go_wp2_with fail
 refine HR.out.mono ?_
 rintro e w1 ⟨v1, v2, v3, rfl, ho, hb⟩
 obtain ⟨A1, c1, rfl, _⟩ := ho.s.form
 obtain ⟨A2, c2, rfl, _⟩ := ho.d.form
 obtain ⟨A3, c3, rfl, _⟩ := ho.r.form
 rw [hs]
 have hR2 := HX2.out.below hb HX2.out.lt
 have n1 := (Below.refl w1.heap.size w1).alloc (nL _) (.cells #[.slice A1 6 c1, .slice A2 m.deeds.length c2, .slice A3 m.e.w.rows.length c3] 29)
 have hR3 := hR2.below n1 hR2.lt
 obtain ⟨r0, r1, r2⟩ := cells3 hR3
 obtain ⟨o0, o1, o2⟩ := cells3 (RowTo.whole w1 #[.slice A1 6 c1, .slice A2 m.deeds.length c2, .slice A3 m.e.w.rows.length c3] 29)
 have f0 := hR3.frozen 0
 have f1 := hR3.frozen 1
 have f2 := hR3.frozen 2
 rw [hs] at ho
 have HO := hD (And.intro (ho.step n1) (And.intro hR3 (bel_add' (bel_add' HN0.out hb HN0.out.size) n1 (bel_add' HN0.out hb HN0.out.size).size)))
 have HO1 := hD (show w.heap.size + 1 < w1.heap.size from hR2.lt)
 clear ho hb hR2 n1 hR3 HN0 HX2 HR x0 x1
 go_wp2_with fail
 obtain ⟨W1, HW1⟩ : ∃ u, Hid ((w1.alloc (.cells #[.slice A1 6 c1, .slice A2 m.deeds.length c2, .slice A3 m.e.w.rows.length c3] 29)) = u) := ⟨_, hD rfl⟩
 rw [HW1.out] at HO o0 o1 o2 r0 r1 r2 f0 f1 f2 ⊢
 clear HW1
 have HF := hD (fun (w' : World) (hh : w'.heap = (((W1.setCell ⟨w.heap.size + 1, 0, none⟩ (.slice A1 6 c1)).setCell ⟨w.heap.size + 1, 1, none⟩ (.slice A2 m.deeds.length c2)).setCell ⟨w.heap.size + 1, 2, none⟩ (.slice A3 m.e.w.rows.length c3)).heap) (ht : w'.os = W1.os ∧ w'.tape = W1.tape ∧ w'.output = W1.output) => (show OutV w' (.slice A1 6 c1) (.slice A2 m.deeds.length c2) (.slice A3 m.e.w.rows.length c3) m.sent m.deeds m.e.w.rows ∧ Below w.heap.size w w' by
  have hk : ∀ b, b ≠ w.heap.size + 1 → w'.heap[b]? = W1.heap[b]? := fun b hb => by rw [hh, Below.heap_setCell _ _ _ _ hb, Below.heap_setCell _ _ _ _ hb, Below.heap_setCell _ _ _ _ hb]
  have hz : w'.heap.size = W1.heap.size := by rw [hh]; simp [World.setCell]
  have hB := HO.out.2.2
  exact ⟨HO.out.1.off (slOnly3 HO.out.2.1) hz hk, ⟨ht.1.trans hB.os, ht.2.1.trans hB.tape, ht.2.2.trans hB.output, by rw [hz]; exact hB.size, fun b hb => (hk b (by omega)).trans (hB.block b hb)⟩⟩))
 have hOR : w1.heap.size ≠ w.heap.size + 1 := by have := HO1.out; omega
 have hRl := HO.out.2.1.lt
 clear HO
 have HSd := hD (show W1.drew.cell? ⟨w1.heap.size, 0, none⟩ = some (.slice A1 6 c1) ∧ W1.drew.cell? ⟨w1.heap.size, 1, none⟩ = some (.slice A2 m.deeds.length c2) ∧ W1.drew.cell? ⟨w1.heap.size, 2, none⟩ = some (.slice A3 m.e.w.rows.length c3) from ⟨o0, o1, o2⟩)
 go_region_held3 (fun wx => wx.cell? ⟨w1.heap.size, 0, none⟩ = some (.slice A1 6 c1) ∧ wx.cell? ⟨w1.heap.size, 1, none⟩ = some (.slice A2 m.deeds.length c2) ∧ wx.cell? ⟨w1.heap.size, 2, none⟩ = some (.slice A3 m.e.w.rows.length c3))
  (first
   | with_reducible exact ⟨o0, o1, o2⟩
   | with_reducible exact HSd.out
   | with_reducible exact ⟨cellDr (cell_set3 o0 hOR), cellDr (cell_set3 o1 hOR), cellDr (cell_set3 o2 hOR)⟩
   | with_reducible exact ⟨cell_set3 o0 hOR, cell_set3 o1 hOR, cell_set3 o2 hOR⟩)
  (fail)
 all_goals go_wp2
 all_goals refine bodyPost_ret (v := .tuple #[.agg #[.slice A1 6 c1, .slice A2 m.deeds.length c2, .slice A3 m.e.w.rows.length c3], .bool true]) (by simp [results, Tryz.results21, go_sem, r0, r1, r2]) rfl ?_
 all_goals exact ⟨_, _, _, rfl, HF.out _ (by rfl) ⟨by rfl, by rfl, by rfl⟩⟩
end Go.Proofs.YtpbaobmegomfpabGreatDoor
namespace Go.Proofs.YtpbaobmegomfpabGreatDoor
open Go.RowKit
def Deed.told (x : Deed) : ByteArray := tellT x.a.kind.toNat x.st.toNat x.a.text
section
variable {mode : Int} {m : Mach Wd}
end
end Go.Proofs.YtpbaobmegomfpabGreatDoor
namespace Go.Proofs.YtpbaobmegomfpabGreatDoor
open Go.RowKit
theorem refB_no {mode : Int} {r : Req} (h0 : r.k ≠ 0) (h1 : r.k = 1 → mode ≠ 3) : refB mode r = false := decide_eq_false fun h => h.elim h0 fun hh => h1 hh.1 hh.2
section
variable {mode : Int} {m : Mach Wd} {c : Nat}
end
def msgR (r : Req) : ByteArray := textOf r.k.toNat r.key r.val
theorem text_size {k : Nat} {key v : ByteArray} (h : checkE k key v = 0) : (textOf k key v).size ≤ 60 := by
 obtain ⟨_, _, _, h4⟩ := read_text h
 rcases Nat.lt_or_ge 60 (textOf k key v).size with h' | h'
 ·rw [readE_long h'] at h4; cases h4
 ·exact h'
theorem req_nat {r : Req} (h : r.ok) : ((r.k.toNat : Nat) : Int) = r.k := by have := (good_of h).lo; omega
theorem msgR_size {r : Req} (h : r.ok) : (msgR r).size ≤ 60 := text_size (by rw [req_nat h]; exact h)
theorem held_set {ss : List Sess} {s : Nat} (x : Sess) (key : ByteArray) : heldB (ss.set s x) s key = heldB ss s key := by
 rw [Bool.eq_iff_iff, heldB_iff, heldB_iff]
 constructor
 ·rintro ⟨k, hk, h1, h2⟩
  have hne : s ≠ k := fun e => h2 (by rw [e])
  rw [List.length_set] at hk
  rw [List.getElem_set_ne hne] at h1
  exact ⟨k, hk, h1, h2⟩
 ·rintro ⟨k, hk, h1, h2⟩
  have hne : s ≠ k := fun e => h2 (by rw [e])
  exact ⟨k, by rw [List.length_set]; exact hk, by rw [List.getElem_set_ne hne]; exact h1, h2⟩
theorem Like.step {A B : Wd} {s c : Nat} (h : Like A B s c) {r : Req} (hr : r.ok) : Like (doR A s r).1 (doR B c r).1 s c ∧ (doR A s r).2 = (doR B c r).2 := by
 obtain ⟨rows, x, a, h1, h2⟩ := h.doM r.k r.key r.val
 have hA := doR_ok h.a h.hs hr
 have hB := doR_ok h.b h.hc hr
 have e1 : doR A s r = (⟨rows, A.ss.set s x⟩, a) := h1
 have e2 : doR B c r = (⟨rows, B.ss.set c x⟩, a) := h2
 rw [e1] at hA ⊢
 rw [e2] at hB ⊢
 refine ⟨⟨hA.1, hB.1, by rw [hA.2]; exact h.hs, by rw [hB.2]; exact h.hc, rfl, ?_, fun key => ?_⟩, rfl⟩
 ·show Wd.at ⟨rows, A.ss.set s x⟩ s = Wd.at ⟨rows, B.ss.set c x⟩ c
  rw [set_at h.hs, set_at h.hc, if_pos rfl, if_pos rfl]
 ·show heldB (A.ss.set s x) s key = heldB (B.ss.set c x) c key
  rw [held_set, held_set, h.held]
section
variable {mode : Int} {m : Mach Wd} {c : Nat}
end
end Go.Proofs.YtpbaobmegomfpabGreatDoor
namespace Go.Proofs.YtpbaobmegomfpabGreatDoor
open Go.RowKit
section
variable {mode : Int} {m : Mach Wd} {c : Nat}
end
section
variable {mode : Int} {S T S' T' : Sess} {s t : ByteArray} {ds : List Deed} {r : Req} {a : Ans}
end
section
variable (v o : ByteArray)
variable {v o}
theorem rf (mode : Int) {k : Int} {key val : ByteArray} (h : 2 ≤ k) : refB mode ⟨k, key, val⟩ = false := refB_no (by show k ≠ 0; omega) (fun h' => absurd h' (by show ¬ k = 1; omega))
variable {mode : Int} {s t : ByteArray} {ds : List Deed}
end
end Go.Proofs.YtpbaobmegomfpabGreatDoor
namespace Go.Proofs.YtpbaobmegomfpabGreatDoor
open Go.RowKit
def rawM (r : Raw) : ByteArray := msg 81 (msgR (reqR r))
def bump (r : Raw) : Raw := ⟨wrap64 (r.kd + 1), wrap64 (r.a + 1), r.b, r.c⟩
def oddT : Nat → ByteArray
 | 0 => ⟨#[]⟩
 | 1 => ⟨#[119, 104, 97, 116]⟩
 | 2 => ⟨#[103, 101, 116]⟩
 | 3 => ⟨#[115, 101, 116, 32, 97]⟩
 | _ => ⟨#[98, 101, 103, 105, 110, 32, 120]⟩
def wayR (r : Raw) : Nat := (pickI (r.kd.tdiv 24) 20).toNat
def dataR (r : Raw) : ByteArray :=
 if wayR r = 0 then ⟨#[]⟩ else if wayR r = 1 then msg 81 (oddT (pickI r.a 5).toNat) else if wayR r = 2 then msg 88 ⟨#[]⟩
 else if wayR r < 6 then rawM r ++ rawM (bump r) else if wayR r = 6 then (rawM r).extract 0 (pickI r.a (max 1 (rawM r).size : Nat)).toNat else rawM r
def actR (n : Nat) (r : Raw) : Act := ⟨if wayR r = 0 then 2 else 1, pickI r.c n, dataR r⟩
def actsR (l : List Raw) (most n : Nat) : List Act := (l.take most).map (actR n)
theorem rawM_size (r : Raw) : (rawM r).size ≤ 62 := by
 unfold rawM; rw [msg_size]
 have := msgR_size (reqR_ok r); omega
theorem rawM_two (r : Raw) : 2 ≤ (rawM r).size := by unfold rawM; rw [msg_size]; omega
theorem oddT_size : ∀ x, (oddT x).size ≤ 7
 | 0 => by decide
 | 1 => by decide
 | 2 => by decide
 | 3 => by decide
 | _ + 4 => by show (⟨#[98, 101, 103, 105, 110, 32, 120]⟩ : ByteArray).size ≤ 7; decide
theorem dataR_size (r : Raw) : (dataR r).size ≤ 124 := by
 have h1 := rawM_size r
 have h2 := rawM_size (bump r)
 unfold dataR
 by_cases h : wayR r = 0
 ·rw [if_pos h]; decide
 rw [if_neg h]
 by_cases h : wayR r = 1
 ·rw [if_pos h, msg_size]; have := oddT_size (pickI r.a 5).toNat; omega
 rw [if_neg h]
 by_cases h : wayR r = 2
 ·rw [if_pos h]; decide
 rw [if_neg h]
 by_cases h : wayR r < 6
 ·rw [if_pos h, ByteArray.size_append]; omega
 rw [if_neg h]
 by_cases h : wayR r = 6
 ·rw [if_pos h, ByteArray.size_extract]; omega
 rw [if_neg h]; omega
theorem actR_E {n : Nat} (hn : 0 < n) (h6 : n ≤ 6) (r : Raw) : actE (actR n r) = 0 := by
 have h1 := dataR_size r
 have h2 := pickI_bd r.c (m := n) (by omega)
 unfold actE actR
 rw [if_neg (by simp only; split <;> omega), if_neg (by simp only; omega), if_neg (by simp only; omega)]
theorem act_0 {n : Nat} {r : Raw} (h : wayR r = 0) : actR n r = ⟨2, pickI r.c n, ⟨#[]⟩⟩ := by unfold actR dataR; rw [if_pos h, if_pos h]
theorem act_1 {n : Nat} {r : Raw} (h : wayR r = 1) : actR n r = ⟨1, pickI r.c n, msg 81 (oddT (pickI r.a 5).toNat)⟩ := by unfold actR dataR; rw [if_neg (by omega), if_neg (by omega), if_pos h]
theorem act_2 {n : Nat} {r : Raw} (h : wayR r = 2) : actR n r = ⟨1, pickI r.c n, msg 88 ⟨#[]⟩⟩ := by unfold actR dataR; rw [if_neg (by omega), if_neg (by omega), if_neg (by omega), if_pos h]
theorem act_3 {n : Nat} {r : Raw} (h : 3 ≤ wayR r ∧ wayR r < 6) : actR n r = ⟨1, pickI r.c n, rawM r ++ rawM (bump r)⟩ := by unfold actR dataR; rw [if_neg (by omega), if_neg (by omega), if_neg (by omega), if_neg (by omega), if_pos h.2]
theorem act_6 {n : Nat} {r : Raw} (h : wayR r = 6) : actR n r = ⟨1, pickI r.c n, (rawM r).extract 0 (pickI r.a (max 1 (rawM r).size : Nat)).toNat⟩ := by unfold actR dataR; rw [if_neg (by omega), if_neg (by omega), if_neg (by omega), if_neg (by omega), if_neg (by omega), if_pos h]
theorem act_7 {n : Nat} {r : Raw} (h : 6 < wayR r) : actR n r = ⟨1, pickI r.c n, rawM r⟩ := by unfold actR dataR; rw [if_neg (by omega), if_neg (by omega), if_neg (by omega), if_neg (by omega), if_neg (by omega), if_neg (by omega)]
theorem actsR_len {l : List Raw} {most n : Nat} : (actsR l most n).length ≤ most := by unfold actsR; simp; omega
theorem actsR_take {l : List Raw} {most n k : Nat} (hk : k < l.length) (hm : k < most) : actsR l (k + 1) n = actsR l k n ++ [actR n l[k]] := by
 unfold actsR
 rw [List.take_succ_eq_append_getElem hk, List.map_append]; rfl
theorem setupR_E (mode srv : Int) : setupE (1 + pickI mode 3) (1 + pickI srv 4) = 0 := by
 have h1 := pickI_bd mode (m := 3) (by omega)
 have h2 := pickI_bd srv (m := 4) (by omega)
 unfold setupE
 rw [if_neg (by omega), if_neg (by omega)]
theorem run_E {mode s : Int} {l : List Act} (h1 : setupE mode s = 0) (h2 : l.length ≤ 300) (h3 : actsE l = 0) : runE mode s l = 0 := by
 unfold runE; rw [if_neg (by simpa using h1), if_neg (by omega), h3]
theorem no88_of {l : List UInt8} (h : l.all (fun x => decide (x ≠ 88)) = true) : No88 ⟨l.toArray⟩ := fun x hx => by
 have := List.all_eq_true.1 h x (by simpa using hx)
 simpa using this
theorem word_no : ∀ k, k ≤ 11 → (wordL k).all (fun x => decide (x ≠ 88)) = true := by decide
theorem key_no : ∀ k, k < 4 → (keyL k).all (fun x => decide (x ≠ 88)) = true := by decide
theorem val_no : ∀ k, k < 12 → ((118 : UInt8) :: numL k).all (fun x => decide (x ≠ 88)) = true := by decide
theorem valAt_list (k : Nat) : (valAt k).data.toList = 118 :: numL k := by unfold valAt numAt; simp
theorem valAt_no {k : Nat} (h : k < 12) : No88 (valAt k) := fun x hx => by
 rw [valAt_list] at hx
 simpa using List.all_eq_true.1 (val_no k h) x hx
theorem prepAt_no {b : Nat} (h : b < 12) : ∀ c, No88 (prepAt c b)
 | 0 => no88_of (by decide)
 | 1 => no88_of (by decide)
 | 2 => by
  show No88 (⟨#[112, 117, 116, 32, 114, 111, 119, 32]⟩ ++ valAt b)
  exact no88_app.2 ⟨no88_of (l := [112, 117, 116, 32, 114, 111, 119, 32]) (by decide), valAt_no h⟩
 | _ + 3 => no88_of (l := [112, 117, 116, 32, 98, 32, 120]) (by decide)
theorem no88_nil : No88 ⟨#[]⟩ := fun x hx => by simp at hx
theorem no88_sp : No88 ⟨#[32]⟩ := no88_of (l := [32]) (by decide)
theorem textOf_no {k : Nat} {key v : ByteArray} (hk : k ≤ 11) (h1 : No88 key) (h2 : No88 v) : No88 (textOf k key v) := by
 have hw : No88 (wordAt k) := no88_of (word_no k hk)
 unfold textOf
 split
 ·exact hw
 ·split
  ·exact no88_app.2 ⟨hw, no88_app.2 ⟨no88_sp, h1⟩⟩
  ·exact no88_app.2 ⟨no88_app.2 ⟨hw, no88_app.2 ⟨no88_sp, h1⟩⟩, no88_app.2 ⟨no88_sp, h2⟩⟩
theorem msg_no {k : UInt8} {t : ByteArray} (hk : k ≠ 88) (hs : t.size < 88) (ht : No88 t) : No88 (msg k t) := fun x hx => by
 rw [msg_toList] at hx
 rcases List.mem_cons.1 hx with rfl | hx
 ·exact hk
 rcases List.mem_cons.1 hx with rfl | hx
 ·intro e
  have := congrArg UInt8.toNat e
  rw [UInt8.toNat_ofNat_of_lt' (by show t.size < 256; omega)] at this
  have : t.size = 88 := this
  omega
 ·exact ht x hx
theorem rawM_no (r : Raw) : No88 (rawM r) := by
 have h := reqR_ok r
 refine msg_no (by decide) (by have := msgR_size h; omega) ?_
 unfold msgR
 refine textOf_no ?_ ?_ ?_
 ·have := (good_of h).hi
  omega
 ·show No88 (rawKey _ _)
  unfold rawKey
  split
  ·exact no88_nil
  ·exact no88_of (key_no _ (pick_lt r.a (m := 4) (by omega)))
 ·show No88 (rawVal _ _ _)
  unfold rawVal
  split
  ·exact no88_nil
  ·split
   ·exact valAt_no (pick_lt r.b (m := 12) (by omega))
   ·exact prepAt_no (pick_lt r.b (m := 12) (by omega)) _
theorem oddT_no : ∀ x, No88 (oddT x)
 | 0 => no88_nil
 | 1 => no88_of (l := [119, 104, 97, 116]) (by decide)
 | 2 => no88_of (l := [103, 101, 116]) (by decide)
 | 3 => no88_of (l := [115, 101, 116, 32, 97]) (by decide)
 | _ + 4 => no88_of (l := [98, 101, 103, 105, 110, 32, 120]) (by decide)
def goneB (a : Act) : Bool := decide (a.kind = 2) || (decide (1 ≤ a.data.size) && decide (a.data.data[0]? = some 88))
theorem dataR_no (r : Raw) (h2 : wayR r ≠ 2) : No88 (dataR r) := by
 unfold dataR
 by_cases h : wayR r = 0
 ·rw [if_pos h]; exact no88_nil
 rw [if_neg h]
 by_cases h : wayR r = 1
 ·rw [if_pos h]; exact msg_no (by decide) (by have := oddT_size (pickI r.a 5).toNat; omega) (oddT_no _)
 rw [if_neg h, if_neg h2]
 by_cases h : wayR r < 6
 ·rw [if_pos h]; exact no88_app.2 ⟨rawM_no _, rawM_no _⟩
 rw [if_neg h]
 by_cases h : wayR r = 6
 ·rw [if_pos h]; exact no88_ext (rawM_no r) _ _
 rw [if_neg h]; exact rawM_no r
def stayR (l : List Raw) (most n : Nat) : List Act := (actsR l most n).filter fun a => !goneB a
theorem stayR_sub {l : List Raw} {most n : Nat} {a : Act} (h : a ∈ stayR l most n) : a ∈ actsR l most n ∧ goneB a = false := by
 have := List.mem_filter.1 h
 exact ⟨this.1, by simpa using this.2⟩
theorem stayR_E {l : List Raw} {most n : Nat} (hn : 0 < n) (h6 : n ≤ 6) : actsE (stayR l most n) = 0 := actsE_all fun a ha => by
 obtain ⟨r, _, rfl⟩ := List.mem_map.1 (stayR_sub ha).1
 exact actR_E hn h6 r
theorem stayR_len {l : List Raw} {most n : Nat} : (stayR l most n).length ≤ most := Nat.le_trans (List.length_filter_le _ _) actsR_len
theorem stayR_no {l : List Raw} {most n : Nat} : ∀ a ∈ stayR l most n, a.kind = 1 ∧ No88 a.data := fun a ha => by
 obtain ⟨h1, h2⟩ := stayR_sub ha
 obtain ⟨r, _, rfl⟩ := List.mem_map.1 h1
 have hk : (actR n r).kind ≠ 2 := fun e => by unfold goneB at h2; rw [decide_eq_true e] at h2; simp at h2
 have h0 : wayR r ≠ 0 := fun e => hk (by unfold actR; rw [if_pos e])
 refine ⟨by unfold actR; rw [if_neg h0], ?_⟩
 refine dataR_no r fun e => ?_
 have : goneB (actR n r) = true := by
  have hd : (actR n r).data = msg 88 ⟨#[]⟩ := by
   show dataR r = _
   unfold dataR
   rw [if_neg (by omega), if_neg (by omega), if_pos e]
  have hk1 : (actR n r).kind = 1 := by unfold actR; rw [if_neg h0]
  unfold goneB
  rw [hd, hk1]; decide
 rw [this] at h2; cases h2
end Go.Proofs.YtpbaobmegomfpabGreatDoor
namespace Go.Proofs.YtpbaobmegomfpabGreatDoor
open Go.RowKit
set_option maxHeartbeats 1000000 in
theorem show_ok (k : Nat) (key v : ByteArray) (w : World) (hW : Words w) (h : checkE k key v = 0) :
  Calls Tryz.prog 35 #[.agg #[.int .i64 k, .string key, .string v]] w fun e w' => e = .returned (.tuple #[.string (textOf k key v), .int .i64 0]) ∧ Below w.heap.size w w' := by
 have HW := hD hW
 obtain ⟨g1, g2, g3, g4, g5, g6⟩ := good_of h
 have hc := check_any k key v (w.alloc (.cells #[.int .i64 k, .string key, .string v] 41)) (by unfold maxLen; omega) (by unfold maxLen; omega) (HW.out.alloc _)
 rw [h] at hc
 have HC := hD hc
 have hws := wordAt_size (k := k) (by omega)
 clear hW hc h
 by_cases h6 : k < 6
 ·have ht := hD (textOf_6 (key := key) (v := v) h6)
  rw [decide_eq_true (by omega)] at g5 g6
  go_enter Tryz.func35, Tryz.ntmps35
  go_wp2_with fail
  refine HC.out.mono ?_
  rintro e w1 ⟨rfl, hb⟩
  have c := (Stm.new w k key v 41).below hb
  have c0 := c.c0
  have c1 := c.c1
  have c2 := c.c2
  have cw := ((HW.out.alloc _).below hb).cell k (by omega)
  clear c
  go_wp2
  go_ret2
  exact ⟨by rw [ht.out]; rfl, bel_trans ((Below.refl _ _).alloc (nL _) _) hb⟩
 ·by_cases h9 : k < 9
  ·have ht := hD (textOf_9 (key := key) (v := v) h6 h9)
   rw [decide_eq_false (by omega)] at g5
   rw [decide_eq_true (by omega)] at g6
   go_enter Tryz.func35, Tryz.ntmps35
   go_wp2_with fail
   refine HC.out.mono ?_
   rintro e w1 ⟨rfl, hb⟩
   have c := (Stm.new w k key v 41).below hb
   have c0 := c.c0
   have c1 := c.c1
   have c2 := c.c2
   have cw := ((HW.out.alloc _).below hb).cell k (by omega)
   clear c
   go_wp2
   go_ret2
   exact ⟨by rw [ht.out]; rfl, bel_trans ((Below.refl _ _).alloc (nL _) _) hb⟩
  ·have ht := hD (textOf_12 (key := key) (v := v) h9)
   rw [decide_eq_false (by omega)] at g5 g6
   go_enter Tryz.func35, Tryz.ntmps35
   go_wp2_with fail
   refine HC.out.mono ?_
   rintro e w1 ⟨rfl, hb⟩
   have c := (Stm.new w k key v 41).below hb
   have c0 := c.c0
   have c1 := c.c1
   have c2 := c.c2
   have cw := ((HW.out.alloc _).below hb).cell k (by omega)
   clear c
   go_wp2
   go_ret2
   exact ⟨by rw [ht.out]; rfl, bel_trans ((Below.refl _ _).alloc (nL _) _) hb⟩
end Go.Proofs.YtpbaobmegomfpabGreatDoor
namespace Go.Proofs.YtpbaobmegomfpabGreatDoor
open Go.RowKit
set_option maxHeartbeats 400000 in
theorem setup_any (mode srv : Int) (w : World) (h1 : -9223372036854775808 ≤ mode) (h2 : mode ≤ 9223372036854775807) (h3 : -9223372036854775808 ≤ srv) (h4 : srv ≤ 9223372036854775807) :
  Calls Tryz.prog 10 #[.int .i64 mode, .int .i64 srv] w fun e w' => e = .returned (.agg #[.int .i64 (1 + pickI mode 3), .int .i64 (1 + pickI srv 4)]) ∧ Below w.heap.size w w' := by
 have HP := hD (fun wc => picked_any mode 3 wc h1 h2 (by omega) (by omega))
 have HQ := hD (fun wc => picked_any srv 4 wc h3 h4 (by omega) (by omega))
 have b1 := pickI_bd mode (m := 3) (by omega)
 have b2 := pickI_bd srv (m := 4) (by omega)
 generalize pickI mode 3 = p at *
 generalize pickI srv 4 = q at *
 clear h1 h2 h3 h4
 go_enter Tryz.func10, Tryz.ntmps10
 go_wp2_with fail
 refine (HP.out _).mono ?_
 rintro e w1 ⟨rfl, rfl⟩
 go_wp2_with fail
 refine (HQ.out _).mono ?_
 rintro e w1 ⟨rfl, rfl⟩
 go_wp2
 refine bodyPost_ret (v := .agg #[.int .i64 (1 + p), .int .i64 (1 + q)]) (by simp [results, Tryz.results10, go_sem]) rfl ⟨rfl, ?_⟩
 repeat' (first | exact Below.refl _ _ | assumption | with_reducible refine below_drewN ?_ _ | with_reducible refine Below.drew ?_ | with_reducible refine Below.setCell ?_ ?_ _ | with_reducible refine Below.alloc ?_ ?_ _ | (simp; done) | (simp; omega))
set_option maxHeartbeats 400000 in
theorem message_any (r : Req) (hr : r.ok) (w : World) (hW : Words w) :
  Calls Tryz.prog 15 #[.agg #[.int .i64 r.k, .string r.key, .string r.val]] w fun e w' => e = .returned (.string (msg 81 (msgR r))) ∧ Below w.heap.size w w' := by
 obtain ⟨k, hk⟩ : ∃ k : Nat, r.k = k := ⟨r.k.toNat, (req_nat hr).symm⟩
 have hm : msgR r = textOf k r.key r.val := by unfold msgR; rw [hk]; rfl
 have hs := msgR_size hr
 have hc : checkE k r.key r.val = 0 := by rw [← hk]; exact hr
 rw [hm] at hs ⊢
 rw [hk]
 generalize r.key = key at *
 generalize r.val = val at *
 have HW := hD hW
 have HS := hD (fun wc h => show_ok k key val wc h hc)
 generalize textOf k key val = t at *
 have HP := hD (fun wc => (pack_any 81 t wc (by omega)))
 clear hW hc hk hm hr
 go_enter Tryz.func15, Tryz.ntmps15
 go_wp2_with fail
 refine (HS.out _ (HW.out.alloc _)).mono ?_
 rintro e w1 ⟨rfl, hb1⟩
 have HB1 := hD (bel_trans ((Below.refl w.heap.size w).alloc (nL _) _) hb1)
 clear hb1
 go_wp2_with fail
 refine (HP.out _).mono ?_
 rintro e w2 ⟨rfl, hb2⟩
 have HB2 := hD (bel_trans HB1.out hb2)
 clear hb2
 go_wp2
 go_ret
 exact ⟨rfl, HB2.out⟩
end Go.Proofs.YtpbaobmegomfpabGreatDoor
namespace Go.Proofs.YtpbaobmegomfpabGreatDoor
open Go Go.RowKit
def fr1 (dp : Nat) (a : Go.Act) : Option Nat → Go.Act
 | none => a
 | some b => a.put (some dp) (pt b)
theorem fr1_put {dp d : Nat} (h : d ≠ dp) (a : Go.Act) (x : Option Nat) (v : Value) : (fr1 dp a x).put (some d) v = fr1 dp (a.put (some d) v) x := by
 cases x with
 | none => rfl
 | some b => simp only [fr1]; rw [pc (Ne.symm h)]
def putN (dst : Nat → Nat) (vals : Nat → Value) (a : Go.Act) : Nat → Go.Act
 | 0 => a
 | c + 1 => (putN dst vals a c).put (some (dst c)) (vals c)
section
variable {P : Program} {ops : Array Oper} {Q : Exit → Go.Act → World → Prop} {md : Region.Mode} {S R : World → Prop} {z : Nat}
def StepC (P : Program) (ops : Array Oper) (R : World → Prop) (i d : Nat) (v : Value) (dp : Nat) (a : Go.Act) : Prop :=
 ∃ o, ops[i]? = some o ∧ o.guard = none ∧ o.dst = some d ∧ ∀ x w, R w →
  (∃ g args, (execOp (fr1 dp a x).eval o).run P w = .ok (.enter g args) w ∧ Calls P g args w fun e w' => e = .returned v ∧ Below w.heap.size w w') ∨ (execOp (fr1 dp a x).eval o).run P w = .ok (.value v) w
theorem StepC.op {i d : Nat} {v : Value} {dp : Nat} {a : Go.Act} (h : StepC P ops R i d v dp a) (hR : ∀ w w', R w → Below w.heap.size w w' → R w') (x : Option Nat) (w : World) (hw : R w) :
  wpOp P ops Q i (fun a' w' => ∃ u, a' = (fr1 dp a x).put (some d) u ∧ (a.put (some d) u = a.put (some d) v ∧ R w') ∧ Below w.heap.size w w') (fr1 dp a x) w := by
 obtain ⟨o, h1, h2, h3, h4⟩ := h
 rcases h4 x w hw with ⟨g, args, hr, hc⟩ | hr
 ·refine wpOp_wp h1 h2 (wp_call hr (hc.mono ?_))
  rintro e w' ⟨rfl, hb⟩
  exact ⟨v, rfl, v, by rw [h3], ⟨rfl, hR w w' hw hb⟩, hb⟩
 ·refine wpOp_wp h1 h2 (wp_val hr ?_)
  exact ⟨v, by rw [h3], ⟨rfl, hw⟩, Below.refl _ _⟩
theorem gridJ {C : Nat} {cop dst : Nat → Nat} {p dp : Nat} {tp : TypeId} {zp : Array Value} {L : Nat → Bool → Array Bool}
  (op : ∃ o, ops[p]? = some o ∧ o.guard = none ∧ o.dst = some dp ∧ ∀ (ev : Operand → Value) w, (execOp ev o).run P w = .ok (.value (pt w.heap.size)) (w.alloc (.cells zp tp)))
  (ready : ∀ c x, c < C → Region.ready md ops (L c x) = cop c :: (if x then [] else [p])) (readyC : Region.ready md ops (L C false) = [p])
  (setc : ∀ c x, c < C → (L c x).setIfInBounds (cop c) true = L (c + 1) x) (setp : ∀ c, c ≤ C → (L c false).setIfInBounds p true = L c true)
  (dn : ∀ c, c < C → dst c ≠ dp) (J : Nat → Go.Act → World → Prop) (n0 lo : Nat) (hJ : ∀ c a w, J c a w → J c a (w.alloc (.cells zp tp))) (hS : ∀ c a w, J c a w → S w) (hl : ∀ c a w, J c a w → lo ≤ w.heap.size)
  (steps : ∀ c a x w, c < C → J c a w → wpOp P ops Q (cop c) (fun a' w' => ∃ v, a' = (fr1 dp a x).put (some (dst c)) v ∧ J (c + 1) (a.put (some (dst c)) v) w' ∧ Below w.heap.size w w') (fr1 dp a x) w)
  (hfin : ∀ a w b, J C a w → zs lo tp zp (some b) w → wpAnyZ P md ops Q S z n0 (L C true) (a.put (some dp) (pt b)) w) :
  ∀ a w, J 0 a w → wpAnyZ P md ops Q S z (n0 + 1 + C) (L 0 false) a w := by
 obtain ⟨o, p1, p2, p3, p4⟩ := op
 have ap : ∀ (a : Go.Act) (w : World) (K : Go.Act → World → Prop), K (fr1 dp a (some w.heap.size)) (w.alloc (.cells zp tp)) → wpOp P ops Q p K (fr1 dp a none) w := fun a w K h => by
  refine wpOp_wp p1 p2 (wp_val (p4 _ w) ?_)
  rw [p3]; exact h
 have main : ∀ (k c : Nat), c + k = C → ∀ (x : Option Nat) (a : Go.Act) (w : World), J c a w → zs lo tp zp x w → wpAnyZ P md ops Q S z (n0 + (!x.isSome).toNat + k) (L c x.isSome) (fr1 dp a x) w := by
  intro k
  induction k with
  | zero =>
   intro c hc x a w hw hz
   obtain rfl : c = C := by omega
   cases x with
   | some b => exact hfin a w b hw hz
   | none =>
    refine ⟨fun h0 => (by rw [show (none : Option Nat).isSome = false from rfl, readyC] at h0; cases h0), fun i hi => ?_⟩
    rw [show (none : Option Nat).isSome = false from rfl, readyC] at hi
    obtain rfl : i = p := by simpa using hi
    have hw' := hJ c a w hw
    refine ap _ w _ ⟨fun _ => hS _ _ _ hw', ?_⟩
    rw [show (none : Option Nat).isSome = false from rfl, setp c (nL _)]
    exact hfin _ _ _ hw' (zs_new _ _ _ (hl _ _ _ hw))
  | succ k ih =>
   intro c hc x a w hw hz
   have hcC : c < C := by omega
   have call : ∀ (x : Option Nat) (w : World), J c a w → zs lo tp zp x w → wpOp P ops Q (cop c) (fun a w' => (cop c ≠ z → S w') ∧ wpAnyZ P md ops Q S z (n0 + (!x.isSome).toNat + k) ((L c x.isSome).setIfInBounds (cop c) true) a w') (fr1 dp a x) w := fun x w hw hz => by
    refine wpOp_mono (fun a' w' h => ?_) (steps c a x w hcC hw)
    obtain ⟨v, rfl, hw', hb⟩ := h
    refine ⟨fun _ => hS _ _ _ hw', ?_⟩
    rw [setc c _ hcC, fr1_put (dn c hcC)]
    exact ih (c + 1) (by omega) x _ w' hw' (zs_below hz hb)
   cases x with
   | some b =>
    refine ⟨fun h0 => (by rw [ready c _ hcC] at h0; cases h0), fun i hi => ?_⟩
    rw [ready c _ hcC] at hi
    obtain rfl : i = cop c := by simpa using hi
    exact call (some b) w hw hz
   | none =>
    refine ⟨fun h0 => (by rw [ready c _ hcC] at h0; cases h0), fun i hi => ?_⟩
    rw [ready c _ hcC] at hi
    have hi : i = cop c ∨ i = p := by simpa using hi
    rcases hi with rfl | rfl
    ·exact call none w hw hz
    ·have hw' := hJ c a w hw
     refine ap _ w _ ⟨fun _ => hS _ _ _ hw', ?_⟩
     rw [show (none : Option Nat).isSome = false from rfl, setp c (by omega)]
     have go := (⟨fun h0 => (by rw [ready c _ hcC] at h0; cases h0), fun j hj => (by
      rw [ready c _ hcC] at hj
      obtain rfl : j = cop c := by simpa using hj
      exact call (some w.heap.size) _ hw' (zs_new _ _ _ (hl _ _ _ hw)))⟩ : wpAnyZ P md ops Q S z (n0 + (!(some w.heap.size : Option Nat).isSome).toNat + k + 1) (L c (some w.heap.size : Option Nat).isSome) (fr1 dp a (some w.heap.size)) (w.alloc (.cells zp tp)))
     have e : n0 + (!(none : Option Nat).isSome).toNat + k = n0 + (!(some w.heap.size : Option Nat).isSome).toNat + k + 1 := by
      show n0 + 1 + k = n0 + 0 + k + 1
      omega
     show wpAnyZ P md ops Q S z (n0 + (!(none : Option Nat).isSome).toNat + k) (L c true) _ _
     rw [e]
     exact go
 intro a w hw
 exact main C 0 (by omega) none a w hw (zs_none _ _ _ _)
theorem gridC {C : Nat} {cop dst : Nat → Nat} {vals : Nat → Value} {A0 : Go.Act} {p dp : Nat} {tp : TypeId} {zp : Array Value} {L : Nat → Bool → Array Bool}
  (op : ∃ o, ops[p]? = some o ∧ o.guard = none ∧ o.dst = some dp ∧ ∀ (ev : Operand → Value) w, (execOp ev o).run P w = .ok (.value (pt w.heap.size)) (w.alloc (.cells zp tp)))
  (ready : ∀ c x, c < C → Region.ready md ops (L c x) = cop c :: (if x then [] else [p])) (readyC : Region.ready md ops (L C false) = [p])
  (setc : ∀ c x, c < C → (L c x).setIfInBounds (cop c) true = L (c + 1) x) (setp : ∀ c, c ≤ C → (L c false).setIfInBounds p true = L c true)
  (dn : ∀ c, c < C → dst c ≠ dp) (n0 lo : Nat) (hR : ∀ w w', R w → Below w.heap.size w w' → R w') (hS : ∀ w, R w → S w) (hl : ∀ w, R w → lo ≤ w.heap.size)
  (steps : ∀ c, c < C → StepC P ops R (cop c) (dst c) (vals c) dp (putN dst vals A0 c))
  (hfin : ∀ w b, R w → zs lo tp zp (some b) w → wpAnyZ P md ops Q S z n0 (L C true) ((putN dst vals A0 C).put (some dp) (pt b)) w) :
  ∀ w, R w → wpAnyZ P md ops Q S z (n0 + 1 + C) (L 0 false) A0 w := fun w hw =>
 gridJ op ready readyC setc setp dn (fun c a w => a = putN dst vals A0 c ∧ R w) n0 lo (fun c a w h => ⟨h.1, hR _ _ h.2 ((Below.refl w.heap.size w).alloc (nL _) _)⟩) (fun c a w h => hS w h.2) (fun c a w h => hl w h.2)
  (fun c a x w hc h => by
   obtain ⟨rfl, hw⟩ := h
   exact (steps c hc).op hR x w hw)
  (fun a w b h hz => by obtain ⟨rfl, hw⟩ := h; exact hfin w b hw hz) A0 w ⟨rfl, hw⟩
end
end Go.Proofs.YtpbaobmegomfpabGreatDoor
namespace Go.Proofs.YtpbaobmegomfpabGreatDoor
open Go.RowKit
theorem tdiv24 {n : Int} (h1 : -9223372036854775808 ≤ n) (h2 : n ≤ 9223372036854775807) : -9223372036854775808 ≤ n.tdiv 24 ∧ n.tdiv 24 ≤ 9223372036854775807 := by
 rcases Int.lt_or_le n 0 with h | h
 ·obtain ⟨a, rfl⟩ : ∃ a, n = -a := ⟨-n, by omega⟩
  rw [Int.neg_tdiv, Int.tdiv_eq_ediv_of_nonneg (by omega)]
  omega
 ·rw [Int.tdiv_eq_ediv_of_nonneg h]
  omega
theorem wrap64_id {n : Int} (h : -9223372036854775808 ≤ n ∧ n ≤ 9223372036854775807) : wrap64 n = n := by unfold wrap64; omega
theorem odd_get : ∀ (x : Nat) (h : x < [Value.string ⟨#[]⟩, .string ⟨#[119, 104, 97, 116]⟩, .string ⟨#[103, 101, 116]⟩, .string ⟨#[115, 101, 116, 32, 97]⟩, .string ⟨#[98, 101, 103, 105, 110, 32, 120]⟩].length), [Value.string ⟨#[]⟩, .string ⟨#[119, 104, 97, 116]⟩, .string ⟨#[103, 101, 116]⟩, .string ⟨#[115, 101, 116, 32, 97]⟩, .string ⟨#[98, 101, 103, 105, 110, 32, 120]⟩][x] = .string (oddT x)
 | 0, _ => rfl
 | 1, _ => rfl
 | 2, _ => rfl
 | 3, _ => rfl
 | 4, _ => rfl
theorem cells4 {w : World} {g t n : Nat} {a b c d : Value} (h : RowTo w g t n [a, b, c, d]) : w.cell? ⟨g, 0, none⟩ = some a ∧ w.cell? ⟨g, 1, none⟩ = some b ∧ w.cell? ⟨g, 2, none⟩ = some c ∧ w.cell? ⟨g, 3, none⟩ = some d := ⟨h.cell (j := 0) (by simp), h.cell (j := 1) (by simp), h.cell (j := 2) (by simp), h.cell (j := 3) (by simp)⟩
theorem act_row : (Tryz.prog.info? 54).map (fun i => (i.zero, i.size, i.bytes)) = some (some (.agg #[.int .i64 0, .int .i64 0, .string ⟨#[]⟩]), 3, 32) := by kernel_rfl
def actV (a : Act) : List Value := [.int .i64 a.kind, .int .i64 a.c, .string a.data]
structure ActsAt (w wr : World) (out : Value) (al : List Act) : Prop where
 sl : ∃ g, Sl wr 54 3 out g al.length (al.map actV).flatten ∧ ∀ b, g = some b → w.heap.size ≤ b
 bel : Below w.heap.size w wr
set_option maxHeartbeats 8000000 in
theorem acts_any (v : Value) (l : List Raw) (most n : Nat) (w : World) (hl : RLst w w.heap.size v l) (hWo : Words w) (hn : 0 < n) (hn6 : n ≤ 6) (hm : most ≤ 1000) :
  Calls Tryz.prog 40 #[v, .int .i64 most, .int .i64 n] w fun e w' => ∃ out, e = .returned out ∧ ActsAt w w' out (actsR l most n) := by
 obtain ⟨E, e, rfl, he⟩ := hl.form
 have hby := hl.bytes
 have HL := hD hl
 have HWo := hD hWo
 clear hl hWo
 go_enter Tryz.func40, Tryz.ntmps40
 go_wp2
 go_loopw [7, 8] (fun o j wr => ∃ k : Nat, k ≤ l.length ∧ k ≤ most ∧ j = .int .i64 k ∧ Hid (ActsAt w wr o (actsR l k n))) (fun _ j _ => l.length - (intOf j).toNat)
 case atStart => exact ⟨0, by omega, by omega, rfl, ⟨none, Sl.nil_ _ _ _, fun _ h => by cases h⟩, Below.refl _ _⟩
 case round =>
  obtain ⟨k, hk, hkm, rfl, HR⟩ := hrel
  by_cases hlt : k < l.length ∧ k < most
  ·obtain ⟨hlt, hltm⟩ := hlt
   have HS1 := hD (actsR_take (n := n) hlt hltm)
   have hwf := HL.out.wf l[k] (List.getElem_mem hlt)
   obtain ⟨b, off, rfl, hb, l0, l1, l2, l3⟩ := HL.out.pt hlt
   generalize hx : l[k] = x at *
   clear hx
   have bl := HR.out.bel
   have d0 := (bl.cell (p := ⟨b, off + k * 4, none⟩) hb).trans l0
   have d1 := (bl.cell (p := ⟨b, off + k * 4 + 1, none⟩) hb).trans l1
   have d2 := (bl.cell (p := ⟨b, off + k * 4 + 2, none⟩) hb).trans l2
   have d3 := (bl.cell (p := ⟨b, off + k * 4 + 3, none⟩) hb).trans l3
   have hbw : b < wr.heap.size := Nat.lt_of_lt_of_le hb bl.size
   obtain ⟨w1, w2, w3, w4⟩ := hwf
   have hcb := i64_bd w4
   have hkb := i64_bd w1
   have hab := i64_bd w2
   have HP := hD (fun wc => picked_any x.c n wc hcb.1 hcb.2 (by omega) (by omega))
   have HPC0 := hD (pickI_bd x.c (m := n) (by omega))
   have HAB := hD hab
   have HBW := hD bl
   have HT2 : Hid (∀ wc : World, Calls Tryz.prog 11 #[.agg #[.int .i64 x.kd, .int .i64 x.a, .int .i64 x.b, .int .i64 x.c]] wc fun e w' => e = .returned (.agg #[.int .i64 (reqR x).k, .string (reqR x).key, .string (reqR x).val]) ∧ Below wc.heap.size wc w') := hD fun wc => stmt_any x.kd x.a x.b x.c wc w1 w2 w3 w4
   have HB2 : Hid (∀ wc : World, Calls Tryz.prog 11 #[.agg #[.int .i64 (wrap64 (x.kd + 1)), .int .i64 (wrap64 (x.a + 1)), .int .i64 x.b, .int .i64 x.c]] wc fun e w' => e = .returned (.agg #[.int .i64 (reqR (bump x)).k, .string (reqR (bump x)).key, .string (reqR (bump x)).val]) ∧ Below wc.heap.size wc w') := hD fun wc => stmt_any _ _ x.b x.c wc (wrap64_wf _) (wrap64_wf _) w3 w4
   have HMS := hD (fun (wc : World) (hb : Below w.heap.size w wc) => message_any (reqR x) (reqR_ok x) wc (HWo.out.below hb))
   have HMB := hD (fun (wc : World) (hb : Below w.heap.size w wc) => message_any (reqR (bump x)) (reqR_ok (bump x)) wc (HWo.out.below hb))
   have hq24 : -9223372036854775808 ≤ x.kd.tdiv 24 ∧ x.kd.tdiv 24 ≤ 9223372036854775807 := tdiv24 hkb.1 hkb.2
   have hwb := pickI_bd (x.kd.tdiv 24) (m := 20) (by omega)
   obtain ⟨wy, hwy⟩ : ∃ wy : Nat, pickI (x.kd.tdiv 24) 20 = wy := ⟨(pickI (x.kd.tdiv 24) 20).toNat, by omega⟩
   have HWR := hD (show wayR x = wy by unfold wayR; rw [hwy]; rfl)
   have HWC := hD (show wy = 0 ∨ wy = 1 ∨ wy = 2 ∨ (3 ≤ wy ∧ wy < 6) ∨ wy = 6 ∨ 6 < wy by omega)
   have hwy2 := fun wc => picked_any (wrap64 (x.kd.tdiv 24)) 20 wc (i64_bd (wrap64_wf _)).1 (i64_bd (wrap64_wf _)).2 (by omega) (by omega)
   rw [show pickI (wrap64 (x.kd.tdiv 24)) 20 = wy by rw [wrap64_id hq24]; exact hwy] at hwy2
   have HWY := hD hwy2
   have HM1 := hD (And.intro (rawM_size x) (rawM_two x))
   have HM2 := hD (rawM_size (bump x))
   obtain ⟨m1, HQ1⟩ : ∃ m1, Hid (rawM x = m1) := ⟨_, hD rfl⟩
   obtain ⟨m2, HQ2⟩ : ∃ m2, Hid (rawM (bump x) = m2) := ⟨_, hD rfl⟩
   have hq1 : msg 81 (msgR (reqR x)) = m1 := HQ1.out
   have hq2 : msg 81 (msgR (reqR (bump x))) = m2 := HQ2.out
   rw [hq1] at HMS
   rw [hq2] at HMB
   rw [HQ1.out] at HM1
   rw [HQ2.out] at HM2
   obtain ⟨qk, HQK⟩ : ∃ qk, Hid ((reqR x).k = qk) := ⟨_, hD rfl⟩
   obtain ⟨qe, HQE⟩ : ∃ qe, Hid ((reqR x).key = qe) := ⟨_, hD rfl⟩
   obtain ⟨qv, HQV⟩ : ∃ qv, Hid ((reqR x).val = qv) := ⟨_, hD rfl⟩
   obtain ⟨uk, HUK⟩ : ∃ qk, Hid ((reqR (bump x)).k = qk) := ⟨_, hD rfl⟩
   obtain ⟨ue, HUE⟩ : ∃ qe, Hid ((reqR (bump x)).key = qe) := ⟨_, hD rfl⟩
   obtain ⟨uv, HUV⟩ : ∃ qv, Hid ((reqR (bump x)).val = qv) := ⟨_, hD rfl⟩
   obtain ⟨pc, HPC⟩ : ∃ pc, Hid (pickI x.c n = pc) := ⟨_, hD rfl⟩
   rw [HQK.out, HQE.out, HQV.out] at HMS HT2
   rw [HUK.out, HUE.out, HUV.out] at HMB HB2
   rw [HPC.out] at HP HPC0
   have n1 := (Below.refl wr.heap.size wr).alloc (nL _) (.cells #[.int .i64 x.kd, .int .i64 x.a, .int .i64 x.b, .int .i64 x.c] 44)
   have HB0 := hD (bel_add' bl n1 bl.size)
   have X0 := RowTo.whole wr #[.int .i64 x.kd, .int .i64 x.a, .int .i64 x.b, .int .i64 x.c] 44
   clear bl l0 l1 l2 l3 w1 w2 w3 w4 hcb hkb hq24 hwb hwy hwy2 hq1 hq2 HQK HQE HQV HUK HUE HUV
   go_wp2_with fail
   have x0 := X0.cell (j := 0) (by simp)
   have x1 := X0.cell (j := 1) (by simp)
   have x2 := X0.cell (j := 2) (by simp)
   have x3 := X0.cell (j := 3) (by simp)
   simp only [gCZ, gCS] at x0 x1 x2 x3
   have hXl := X0.lt
   refine wp_region_z 9 (fun wx => wx.cell? ⟨wr.heap.size, 0, none⟩ = some (.int .i64 x.kd) ∧ wx.cell? ⟨wr.heap.size, 1, none⟩ = some (.int .i64 x.a) ∧ wx.cell? ⟨wr.heap.size, 2, none⟩ = some (.int .i64 x.b) ∧ wx.cell? ⟨wr.heap.size, 3, none⟩ = some (.int .i64 x.c)) (by kernel_rfl) (show (wr.alloc (.cells #[.int .i64 x.kd, .int .i64 x.a, .int .i64 x.b, .int .i64 x.c] 44)).drew.cell? ⟨wr.heap.size, 0, none⟩ = some (.int .i64 x.kd) ∧ (wr.alloc (.cells #[.int .i64 x.kd, .int .i64 x.a, .int .i64 x.b, .int .i64 x.c] 44)).drew.cell? ⟨wr.heap.size, 1, none⟩ = some (.int .i64 x.a) ∧ (wr.alloc (.cells #[.int .i64 x.kd, .int .i64 x.a, .int .i64 x.b, .int .i64 x.c] 44)).drew.cell? ⟨wr.heap.size, 2, none⟩ = some (.int .i64 x.b) ∧ (wr.alloc (.cells #[.int .i64 x.kd, .int .i64 x.a, .int .i64 x.b, .int .i64 x.c] 44)).drew.cell? ⟨wr.heap.size, 3, none⟩ = some (.int .i64 x.c) from ⟨x0, x1, x2, x3⟩) (fun hS => ?_)
   refine tkZ 0 ?va0 rfl ?ya0 hS ?ra0
   case ya0 => (intro w hSw; (try dsimp only at hSw); (try simp only [gTA, gCZ, gCS]); go_simp; try with_reducible rfl)
   (try simp only [gTA, gCZ, gCS, Act.put, sTA, sCZ, sCS])
   refine tkZ 1 ?va1 rfl ?ya1 hS ?ra1
   case ya1 => (intro w hSw; (try dsimp only at hSw); (try simp only [gTA, gCZ, gCS]); go_simp; try with_reducible rfl)
   (try simp only [gTA, gCZ, gCS, Act.put, sTA, sCZ, sCS])
   refine tkZ 2 ?va2 rfl ?ya2 hS ?ra2
   case ya2 => (intro w hSw; (try dsimp only at hSw); (try simp only [gTA, gCZ, gCS]); go_simp; try with_reducible rfl)
   (try simp only [gTA, gCZ, gCS, Act.put, sTA, sCZ, sCS])
   refine tkZ 4 ?va4 rfl ?ya4 hS ?ra4
   case ya4 => (intro w hSw; (try dsimp only at hSw); (try simp only [gTA, gCZ, gCS]); go_simp; try with_reducible rfl)
   (try simp only [gTA, gCZ, gCS, Act.put, sTA, sCZ, sCS])
   refine gridC (C := 4) (cop := fun c => match c with | 0 => 3 | 1 => 5 | 2 => 6 | _ => 7) (dst := fun c => match c with | 0 => 29 | 1 => 31 | 2 => 32 | _ => 33) (vals := fun c => match c with | 0 => .int .i64 pc | 1 => .agg #[.int .i64 qk, .string qe, .string qv] | 2 => .string m1 | _ => .agg #[.int .i64 1, .int .i64 pc, .string m1]) (p := 8) (dp := 10) (tp := 54) (zp := #[.int .i64 0, .int .i64 0, .string ⟨#[]⟩]) (L := fun c x => #[true, true, true, decide (0 < c), true, decide (1 < c), decide (2 < c), decide (3 < c), x, false]) (R := fun wc => Below (wr.alloc (.cells #[.int .i64 x.kd, .int .i64 x.a, .int .i64 x.b, .int .i64 x.c] 44)).heap.size (wr.alloc (.cells #[.int .i64 x.kd, .int .i64 x.a, .int .i64 x.b, .int .i64 x.c] 44)) wc) ⟨_, rfl, rfl, rfl, fun ev w => (by go_simp; rfl)⟩ ?rdy (by kernel_rfl) ?sc ?sp ?dn 1 (wr.alloc (.cells #[.int .i64 x.kd, .int .i64 x.a, .int .i64 x.b, .int .i64 x.c] 44)).heap.size (fun w1 w2 h1 h2 => bel_trans h1 h2) ?hS (fun w1 h1 => h1.size) ?st ?fin _ (Below.refl _ _).drew
   case rdy => (intro c y hc; rcases c with _ | _ | _ | _ | c; all_goals first | (exfalso; omega) | (cases y <;> kernel_rfl))
   case sc => (intro c y hc; rcases c with _ | _ | _ | _ | c; all_goals first | rfl | (exfalso; omega))
   case sp => (intro c hc; rcases c with _ | _ | _ | _ | _ | c; all_goals first | rfl | (exfalso; omega))
   case dn => (intro c hc; rcases c with _ | _ | _ | _ | c; all_goals first | decide | (exfalso; omega))
   case hS => (intro w1 h1; exact ⟨(h1.cell (p := ⟨wr.heap.size, 0, none⟩) hXl).trans x0, (h1.cell (p := ⟨wr.heap.size, 1, none⟩) hXl).trans x1, (h1.cell (p := ⟨wr.heap.size, 2, none⟩) hXl).trans x2, (h1.cell (p := ⟨wr.heap.size, 3, none⟩) hXl).trans x3⟩)
   case st =>
    intro c hc
    rcases c with _ | _ | _ | _ | c
    ·refine ⟨_, rfl, rfl, rfl, fun y wc hR => .inl ⟨14, #[.int .i64 x.c, .int .i64 n], ?_, ?_⟩⟩
     ·cases y <;> ((try simp only [fr1, putN, pt, gTA, gCZ, gCS, Go.Act.put, sTA, sCZ, sCS]); go_simp; try rfl)
     ·exact (HP.out wc).mono fun e w' h => ⟨h.1, by rw [← h.2]; exact Below.refl _ _⟩
    ·refine ⟨_, rfl, rfl, rfl, fun y wc hR => .inl ⟨11, #[.agg #[.int .i64 x.kd, .int .i64 x.a, .int .i64 x.b, .int .i64 x.c]], ?_, HT2.out wc⟩⟩
     cases y <;> ((try simp only [fr1, putN, pt, gTA, gCZ, gCS, Go.Act.put, sTA, sCZ, sCS]); go_simp; try rfl)
    ·refine ⟨_, rfl, rfl, rfl, fun y wc hR => .inl ⟨15, #[.agg #[.int .i64 qk, .string qe, .string qv]], ?_, HMS.out wc (bel_add' HB0.out hR HB0.out.size)⟩⟩
     cases y <;> ((try simp only [fr1, putN, pt, gTA, gCZ, gCS, Go.Act.put, sTA, sCZ, sCS]); go_simp; try rfl)
    ·refine ⟨_, rfl, rfl, rfl, fun y wc hR => .inr ?_⟩
     cases y <;> ((try simp only [fr1, putN, pt, gTA, gCZ, gCS, Go.Act.put, sTA, sCZ, sCS]); go_simp; try rfl)
    ·exfalso; omega
   case fin =>
    intro w6 Y hb6 hz6
    have hY0 := zs_row hz6
    have hYl := hY0.lt
    have hYX := (hz6 Y rfl).1
    obtain ⟨y0, y1, y2⟩ := cells3 hY0
    have f0 := hY0.frozen 0
    have f1 := hY0.frozen 1
    have f2 := hY0.frozen 2
    have hYX' : Y ≠ wr.heap.size := by rw [World.size_alloc] at hYX; omega
    have hX6 := X0.below hb6 hXl
    have hX7 := ((hX6.other (p := ⟨Y, 0, none⟩) hYX' (.int .i64 1)).other (p := ⟨Y, 1, none⟩) hYX' (.int .i64 pc)).other (p := ⟨Y, 2, none⟩) hYX' (.string m1)
    have hR7 := hY0.set3 (.int .i64 1) (.int .i64 pc) (.string m1)
    have hB7 := bel_set3 (n1.trans (hb6.mono n1.size)) (show wr.heap.size ≤ Y by rw [World.size_alloc] at hYX; omega) (.int .i64 1) (.int .i64 pc) (.string m1)
    (try simp only [fr1, putN, pt, gTA, gCZ, gCS, Go.Act.put, sTA, sCZ, sCS])
    refine wpAnyZ_last rfl rfl (by kernel_rfl) (by kernel_rfl) (fun K hK => ?_)
    (try simp only [gTA, gCZ, gCS])
    go_simp
    refine hK.out _ _ ?_
    clear hK K
    (try simp only [gTA, gCZ, gCS, Act.put, sTA, sCZ, sCS])
    obtain ⟨W7, HW7⟩ : ∃ u, Hid ((((w6.setCell ⟨Y, 0, none⟩ (.int .i64 1)).setCell ⟨Y, 1, none⟩ (.int .i64 pc)).setCell ⟨Y, 2, none⟩ (.string m1)) = u) := ⟨_, hD rfl⟩
    rw [HW7.out] at hX7 hR7 hB7 ⊢
    have HYX := hD hYX'
    have HYW := hD (show wr.heap.size ≤ Y by rw [World.size_alloc] at hYX; omega)
    clear HW7 hb6 hz6 hY0 y0 y1 y2 f0 f1 f2 hX6 hYl hYX hYX' x0 x1 x2 x3 hXl X0 n1
    have HX7 := hD hX7
    have HR7 := hD hR7
    have HB7 := hD hB7
    obtain ⟨x0, x1, x2, x3⟩ := cells4 hX7
    have hXl := hX7.lt
    have hYl := hR7.lt
    clear hX7 hR7 hB7
    go_wp2_with fail
    refine (HWY.out _).mono ?_
    rintro e w' ⟨rfl, rfl⟩
    go_upto_block 2 with fail
    go_cut [] from 11 to 97 (fun wx => RowTo wx Y 54 3 (actV (actR n x)) ∧ Below wr.heap.size wr wx)
    case first =>
     obtain ⟨y0, y1, y2⟩ := cells3 HR7.out
     have g0 := HR7.out.frozen 0
     have g1 := HR7.out.frozen 1
     have g2 := HR7.out.frozen 2
     have k0 := HX7.out.frozen 0
     have k1 := HX7.out.frozen 1
     have HK1 := hD (fun (W : World) (l : List Value) (hR : RowTo W Y 54 3 l) (hB : Below wr.heap.size wr W) (j : Nat) (hj : j < l.length) (u : Value) => (show RowTo (W.setCell ⟨Y, j, none⟩ u) Y 54 3 (l.set j u) ∧ Below wr.heap.size wr (W.setCell ⟨Y, j, none⟩ u) from ⟨hR.put hj u, hB.setCell (p := ⟨Y, j, none⟩) HYW.out u⟩))
     rcases HWC.out with h0 | h1 | h2 | h3 | h6 | h7
     ·have HA := hD (act_0 (n := n) (HWR.out.trans h0))
      subst h0
      as_aux_lemma =>
       go_wp2
       go_meet
       case rel =>
        rw [HA.out, HPC.out]
        have z := HK1.out _ _ HR7.out HB7.out 0 (by simp) (.int .i64 2)
        exact HK1.out _ _ z.1 z.2 2 (by simp) (.string ⟨#[]⟩)
     ·have HA := hD (act_1 (n := n) (HWR.out.trans h1))
      subst h1
      obtain ⟨p5, hp5, hp5l⟩ := pick_some x.a 5 (by omega)
      have HP5 := hD (fun wc => picked_any x.a 5 wc HAB.out.1 HAB.out.2 (by omega) (by omega))
      rw [show ((5 : Nat) : Int) = 5 from rfl] at hp5
      rw [hp5] at HP5 HA
      have HO5 := hD (show (p5 : Int) < 5 by omega)
      have HPK := hD (fun wc => pack_any 81 (oddT p5) wc (by have := oddT_size p5; omega))
      have hc5 : (W7.alloc (.cells #[.string ⟨#[]⟩, .string ⟨#[119, 104, 97, 116]⟩, .string ⟨#[103, 101, 116]⟩, .string ⟨#[115, 101, 116, 32, 97]⟩, .string ⟨#[98, 101, 103, 105, 110, 32, 120]⟩] 9)).cell? ⟨W7.heap.size, p5, none⟩ = some (.string (oddT p5)) := by
       have h := (RowTo.whole W7 #[.string ⟨#[]⟩, .string ⟨#[119, 104, 97, 116]⟩, .string ⟨#[103, 101, 116]⟩, .string ⟨#[115, 101, 116, 32, 97]⟩, .string ⟨#[98, 101, 103, 105, 110, 32, 120]⟩] 9).cell (j := p5) (by simpa using hp5l)
       rw [odd_get p5 hp5l] at h
       exact h
      have hp5I : (p5 : Int) < 5 := by omega
      clear hp5
      go_wp2_with fail
      refine (HP5.out _).mono ?_
      rintro e w5 ⟨rfl, rfl⟩
      go_wp2_with fail
      refine (HPK.out _).mono ?_
      rintro e w8 ⟨rfl, hb8⟩
      have kb := bel_trans ((Below.refl W7.heap.size W7).alloc (nL _) _) hb8
      have hR8 := HR7.out.below kb hYl
      have hB8 := bel_add' HB7.out kb HB7.out.size
      have q2 := (cells3 hR8).2.2
      have k2 := hR8.frozen 2
      have hY8 := hR8.lt
      clear hb8 kb
      go_wp2
      go_meet
      case rel =>
       rw [HA.out, HPC.out]
       exact HK1.out _ _ hR8 hB8 2 (by simp) _
     ·have HA := hD (act_2 (n := n) (HWR.out.trans h2))
      subst h2
      have HPK := hD (fun wc => pack_any 88 ⟨#[]⟩ wc (by decide))
      as_aux_lemma =>
       go_wp2_with fail
       refine (HPK.out _).mono ?_
       rintro e w8 ⟨rfl, kb⟩
       have hR8 := HR7.out.below kb hYl
       have hB8 := bel_add' HB7.out kb HB7.out.size
       have q2 := (cells3 hR8).2.2
       have k2 := hR8.frozen 2
       have hY8 := hR8.lt
       clear kb
       go_wp2
       go_meet
       case rel =>
        rw [HA.out, HPC.out]
        exact HK1.out _ _ hR8 hB8 2 (by simp) _
     ·have HA := hD (act_3 (n := n) (show 3 ≤ wayR x ∧ wayR x < 6 by rw [HWR.out]; exact h3))
      have HAD : Hid (m1.size + m2.size ≤ 124) := hD (by have := HM1.out.1; have := HM2.out; omega)
      have hsum := fun W => run_string_add_sum (P := Tryz.prog) W m1 m2 (by have := HAD.out; omega)
      obtain rfl | rfl | rfl : wy = 3 ∨ wy = 4 ∨ wy = 5 := by omega
      all_goals (as_aux_lemma =>
       go_upto_region 19 with fail
       have hX8 := (HX7.out.put (j := 0) (by simp) (.int .i64 (wrap64 (x.kd + 1)))).put (j := 1) (by simp) (.int .i64 (wrap64 (x.a + 1)))
       have hR8 := (HR7.out.other (p := ⟨wr.heap.size, 0, none⟩) (Ne.symm HYX.out) (.int .i64 (wrap64 (x.kd + 1)))).other (p := ⟨wr.heap.size, 1, none⟩) (Ne.symm HYX.out) (.int .i64 (wrap64 (x.a + 1)))
       have hB8 := (HB7.out.setCell (p := ⟨wr.heap.size, 0, none⟩) (nL _) (.int .i64 (wrap64 (x.kd + 1)))).setCell (p := ⟨wr.heap.size, 1, none⟩) (nL _) (.int .i64 (wrap64 (x.a + 1)))
       obtain ⟨W8, HW8⟩ : ∃ u, Hid ((W7.setCell ⟨wr.heap.size, 0, none⟩ (.int .i64 (wrap64 (x.kd + 1)))).setCell ⟨wr.heap.size, 1, none⟩ (.int .i64 (wrap64 (x.a + 1))) = u) := ⟨_, hD rfl⟩
       rw [HW8.out] at hX8 hR8 hB8 ⊢
       simp only [sCZ, sCS] at hX8
       have HR8 := hD hR8
       have HB8 := hD hB8
       obtain ⟨p0, p1, p2, p3⟩ := cells4 hX8
       have q2 := (cells3 hR8).2.2
       have hXl8 := hX8.lt
       have hYl8 := hR8.lt
       clear HW8 hX8 hR8 hB8 k0 k1 x0 x1 x2 x3 y0 y1 y2 g0 g1 g2 hXl hYl
       refine wp_region_z 7 (fun wx => wx.cell? ⟨wr.heap.size, 0, none⟩ = some (.int .i64 (wrap64 (x.kd + 1))) ∧ wx.cell? ⟨wr.heap.size, 1, none⟩ = some (.int .i64 (wrap64 (x.a + 1))) ∧ wx.cell? ⟨wr.heap.size, 2, none⟩ = some (.int .i64 x.b) ∧ wx.cell? ⟨wr.heap.size, 3, none⟩ = some (.int .i64 x.c) ∧ wx.cell? ⟨Y, 2, none⟩ = some (.string m1)) (by kernel_rfl) (show W8.drew.cell? ⟨wr.heap.size, 0, none⟩ = some (.int .i64 (wrap64 (x.kd + 1))) ∧ W8.drew.cell? ⟨wr.heap.size, 1, none⟩ = some (.int .i64 (wrap64 (x.a + 1))) ∧ W8.drew.cell? ⟨wr.heap.size, 2, none⟩ = some (.int .i64 x.b) ∧ W8.drew.cell? ⟨wr.heap.size, 3, none⟩ = some (.int .i64 x.c) ∧ W8.drew.cell? ⟨Y, 2, none⟩ = some (.string m1) from ⟨p0, p1, p2, p3, q2⟩) (fun hS => ?_)
       refine tkZ 0 ?_ rfl ?_ hS ?_
       rotate_left
       ·(intro w hSw; (try dsimp only at hSw); (try simp only [gTA, gCZ, gCS]); go_simp; try with_reducible rfl)
       (try simp only [gTA, gCZ, gCS, Act.put, sTA, sCZ, sCS])
       refine tkZ 1 ?_ rfl ?_ hS ?_
       rotate_left
       ·(intro w hSw; (try dsimp only at hSw); (try simp only [gTA, gCZ, gCS]); go_simp; try with_reducible rfl)
       (try simp only [gTA, gCZ, gCS, Act.put, sTA, sCZ, sCS])
       refine tkZ 2 ?_ rfl ?_ hS ?_
       rotate_left
       ·(intro w hSw; (try dsimp only at hSw); (try simp only [gTA, gCZ, gCS]); go_simp; try with_reducible rfl)
       (try simp only [gTA, gCZ, gCS, Act.put, sTA, sCZ, sCS])
       refine wpAnyZ_one (i := 3) rfl rfl (by kernel_rfl) (fun K hK => ?_)
       (try simp only [gTA, gCZ, gCS])
       go_simp
       refine (HB2.out _).mono ?_
       rintro e w9 ⟨rfl, hb9⟩
       have kb := bel_add' (Below.refl W8.heap.size W8).drew hb9 (nL _)
       clear hb9
       go_simp
       have hS2 := (show w9.cell? ⟨wr.heap.size, 0, none⟩ = some (.int .i64 (wrap64 (x.kd + 1))) ∧ w9.cell? ⟨wr.heap.size, 1, none⟩ = some (.int .i64 (wrap64 (x.a + 1))) ∧ w9.cell? ⟨wr.heap.size, 2, none⟩ = some (.int .i64 x.b) ∧ w9.cell? ⟨wr.heap.size, 3, none⟩ = some (.int .i64 x.c) ∧ w9.cell? ⟨Y, 2, none⟩ = some (.string m1) from ⟨(kb.cell (p := ⟨wr.heap.size, 0, none⟩) hXl8).trans p0, (kb.cell (p := ⟨wr.heap.size, 1, none⟩) hXl8).trans p1, (kb.cell (p := ⟨wr.heap.size, 2, none⟩) hXl8).trans p2, (kb.cell (p := ⟨wr.heap.size, 3, none⟩) hXl8).trans p3, (kb.cell (p := ⟨Y, 2, none⟩) hYl8).trans q2⟩)
       refine hK.out _ _ hS2 ?_
       clear hK K hS
       have hS := hS2
       clear hS2
       (try simp only [gTA, gCZ, gCS, Act.put, sTA, sCZ, sCS])
       refine wpAnyZ_one (i := 4) rfl rfl (by kernel_rfl) (fun K hK => ?_)
       (try simp only [gTA, gCZ, gCS])
       go_simp
       refine (HMB.out _ (bel_add' (bel_add' HBW.out HB8.out HBW.out.size) kb (bel_add' HBW.out HB8.out HBW.out.size).size)).mono ?_
       rintro e w10 ⟨rfl, hb10⟩
       have kb2 := bel_add' kb hb10 kb.size
       clear hb10
       go_simp
       have hS2 := (show w10.cell? ⟨wr.heap.size, 0, none⟩ = some (.int .i64 (wrap64 (x.kd + 1))) ∧ w10.cell? ⟨wr.heap.size, 1, none⟩ = some (.int .i64 (wrap64 (x.a + 1))) ∧ w10.cell? ⟨wr.heap.size, 2, none⟩ = some (.int .i64 x.b) ∧ w10.cell? ⟨wr.heap.size, 3, none⟩ = some (.int .i64 x.c) ∧ w10.cell? ⟨Y, 2, none⟩ = some (.string m1) from ⟨(kb2.cell (p := ⟨wr.heap.size, 0, none⟩) hXl8).trans p0, (kb2.cell (p := ⟨wr.heap.size, 1, none⟩) hXl8).trans p1, (kb2.cell (p := ⟨wr.heap.size, 2, none⟩) hXl8).trans p2, (kb2.cell (p := ⟨wr.heap.size, 3, none⟩) hXl8).trans p3, (kb2.cell (p := ⟨Y, 2, none⟩) hYl8).trans q2⟩)
       refine hK.out _ _ hS2 ?_
       clear hK K hS
       have hS := hS2
       clear hS2
       (try simp only [gTA, gCZ, gCS, Act.put, sTA, sCZ, sCS])
       refine tkZ 5 ?_ rfl ?_ hS ?_
       rotate_left
       ·(intro w hSw; (try dsimp only at hSw); (try simp only [gTA, gCZ, gCS]); go_simp; try with_reducible rfl)
       (try simp only [gTA, gCZ, gCS, Act.put, sTA, sCZ, sCS])
       refine tkZ 6 ?_ rfl ?_ hS ?_
       rotate_left
       ·(intro w hSw; (try dsimp only at hSw); (try simp only [gTA, gCZ, gCS]); go_simp; try with_reducible rfl)
       (try simp only [gTA, gCZ, gCS, Act.put, sTA, sCZ, sCS])
       have hR9 := HR8.out.below kb2 hYl8
       have hB9 := bel_add' HB8.out kb2 HB8.out.size
       have u2 := (cells3 hR9).2.2
       have z2 := hR9.frozen 2
       refine wpAnyZ_last rfl rfl (by kernel_rfl) (by kernel_rfl) (fun K hK => ?_)
       (try simp only [gTA, gCZ, gCS])
       go_simp
       refine hK.out _ _ ?_
       clear hK K
       (try simp only [gTA, gCZ, gCS, Act.put, sTA, sCZ, sCS])
       go_wp2
       go_meet
       case rel =>
        rw [HA.out, HPC.out, HQ1.out, HQ2.out]
        exact HK1.out _ _ hR9 hB9 2 (by simp) _
       )
     ·have HA := hD (act_6 (n := n) (HWR.out.trans h6))
      subst h6
      have hmx : max 1 (m1.size : Int) = m1.size := by have := HM1.out.2; omega
      have hmn : (max 1 m1.size : Nat) = m1.size := by have := HM1.out.2; omega
      rw [HQ1.out, hmn] at HA
      obtain ⟨p6, hp6, hp6l⟩ := pick_some x.a m1.size (by have := HM1.out.2; omega)
      have HP6 := hD (fun wc => picked_any x.a (m1.size : Int) wc HAB.out.1 HAB.out.2 (by omega) (by have := HM1.out.1; omega))
      rw [hp6] at HP6 HA
      have hp6I : (p6 : Int) ≤ (m1.size : Int) := by omega
      clear hp6
      go_upto_region 21 with fail
      as_aux_lemma =>
       refine wp_region_z 11 (fun wx => wx.cell? ⟨wr.heap.size, 1, none⟩ = some (.int .i64 x.a) ∧ wx.cell? ⟨Y, 2, none⟩ = some (.string m1)) (by kernel_rfl) (show W7.drew.cell? ⟨wr.heap.size, 1, none⟩ = some (.int .i64 x.a) ∧ W7.drew.cell? ⟨Y, 2, none⟩ = some (.string m1) from ⟨x1, y2⟩) (fun hS => ?_)
       refine tkZ 0 ?vc0 rfl ?yc0 hS ?rc0
       case yc0 => (intro w hSw; (try dsimp only at hSw); (try simp only [gTA, gCZ, gCS]); go_simp; try with_reducible rfl)
       (try simp only [gTA, gCZ, gCS, Act.put, sTA, sCZ, sCS])
       refine tkZ 1 ?vc1 rfl ?yc1 hS ?rc1
       case yc1 => (intro w hSw; (try dsimp only at hSw); (try simp only [gTA, gCZ, gCS]); go_simp; try with_reducible rfl)
       (try simp only [gTA, gCZ, gCS, Act.put, sTA, sCZ, sCS])
       refine tkZ 2 ?vc2 rfl ?yc2 hS ?rc2
       case yc2 => (intro w hSw; (try dsimp only at hSw); (try simp only [gTA, gCZ, gCS]); go_simp; try with_reducible rfl)
       (try simp only [gTA, gCZ, gCS, Act.put, sTA, sCZ, sCS])
       refine tkZ 3 ?vc3 rfl ?yc3 hS ?rc3
       case yc3 => (intro w hSw; (try dsimp only at hSw); (try simp only [gTA, gCZ, gCS]); go_simp; try with_reducible rfl)
       (try simp only [gTA, gCZ, gCS, Act.put, sTA, sCZ, sCS])
       refine tkZ 4 ?vc4 rfl ?yc4 hS ?rc4
       case yc4 => (intro w hSw; (try dsimp only at hSw); (try simp only [gTA, gCZ, gCS]); go_simp; try with_reducible rfl)
       (try simp only [gTA, gCZ, gCS, Act.put, sTA, sCZ, sCS])
       refine tkZ 5 ?vc5 rfl ?yc5 hS ?rc5
       case yc5 => (intro w hSw; (try dsimp only at hSw); (try simp only [gTA, gCZ, gCS]); go_simp; try with_reducible rfl)
       (try simp only [gTA, gCZ, gCS, Act.put, sTA, sCZ, sCS])
       refine tkZ 6 ?vc6 rfl ?yc6 hS ?rc6
       case yc6 => (intro w hSw; (try dsimp only at hSw); (try simp only [gTA, gCZ, gCS]); go_simp; try with_reducible rfl)
       (try simp only [gTA, gCZ, gCS, Act.put, sTA, sCZ, sCS])
       refine tkZ 7 ?vc7 rfl ?yc7 hS ?rc7
       case yc7 => (intro w hSw; (try dsimp only at hSw); (try simp only [gTA, gCZ, gCS]); go_simp; try with_reducible rfl)
       (try simp only [gTA, gCZ, gCS, Act.put, sTA, sCZ, sCS])
       refine wpAnyZ_one (i := 8) rfl rfl (by kernel_rfl) (fun K hK => ?_)
       (try simp only [gTA, gCZ, gCS])
       go_simp
       refine (HP6.out _).mono ?_
       rintro e w9 ⟨rfl, rfl⟩
       go_simp
       have hS2 := (show W7.drew.cell? ⟨wr.heap.size, 1, none⟩ = some (.int .i64 x.a) ∧ W7.drew.cell? ⟨Y, 2, none⟩ = some (.string m1) from ⟨x1, y2⟩)
       refine hK.out _ _ hS2 ?_
       clear hK K hS
       have hS := hS2
       clear hS2
       (try simp only [gTA, gCZ, gCS, Act.put, sTA, sCZ, sCS])
       refine tkZ 9 ?vc9 rfl ?yc9 hS ?rc9
       case yc9 => (intro w hSw; (try dsimp only at hSw); (try simp only [gTA, gCZ, gCS]); go_simp; try with_reducible rfl)
       (try simp only [gTA, gCZ, gCS, Act.put, sTA, sCZ, sCS])
       refine tkZ 10 ?vc10 rfl ?yc10 hS ?rc10
       case yc10 => (intro w hSw; (try dsimp only at hSw); (try simp only [gTA, gCZ, gCS]); go_simp; try with_reducible rfl)
       (try simp only [gTA, gCZ, gCS, Act.put, sTA, sCZ, sCS])
       refine wpAnyZ_last rfl rfl (by kernel_rfl) (by kernel_rfl) (fun K hK => ?_)
       (try simp only [gTA, gCZ, gCS])
       go_simp
       refine hK.out _ _ ?_
       clear hK K
       (try simp only [gTA, gCZ, gCS, Act.put, sTA, sCZ, sCS])
       go_wp2
       go_meet
       case rel =>
        rw [HA.out, HPC.out]
        simp only [Int.toNat_natCast]
        have z := HK1.out _ _ HR7.out HB7.out 2 (by simp) (.string (m1.extract 0 p6))
        exact ⟨z.1.below ((Below.refl _ _).drew) z.1.lt, z.2.drew⟩
     ·have HA := hD (act_7 (n := n) (show 6 < wayR x by rw [HWR.out]; exact h7))
      have t0 : ((wy : Int) == 0) = false := beq_eq_false_iff_ne.2 (by omega)
      have t1 : ((wy : Int) == 1) = false := beq_eq_false_iff_ne.2 (by omega)
      have t2 : ((wy : Int) == 2) = false := beq_eq_false_iff_ne.2 (by omega)
      have t3 : ((wy : Int) == 3) = false := beq_eq_false_iff_ne.2 (by omega)
      have t4 : ((wy : Int) == 4) = false := beq_eq_false_iff_ne.2 (by omega)
      have t5 : ((wy : Int) == 5) = false := beq_eq_false_iff_ne.2 (by omega)
      have t6 : ((wy : Int) == 6) = false := beq_eq_false_iff_ne.2 (by omega)
      as_aux_lemma =>
       go_wp2
       go_meet
       case rel =>
        rw [HA.out, HPC.out, HQ1.out]
        exact ⟨HR7.out, HB7.out⟩
    case rest =>
     obtain ⟨hR, hB⟩ := hcut
     obtain ⟨g, hs, hg⟩ := HR.out.sl
     have hbs := HR.out.bel.size
     have hbs2 := hB.size
     obtain ⟨i0, hi, hz0, hz1, hz2⟩ := info_parts act_row
     have hlk := actsR_len (l := l) (most := k) (n := n)
     generalize actR n x = t at *
     obtain ⟨tk, tc, td⟩ := t
     have hR' : RowTo wc Y 54 3 [.int .i64 tk, .int .i64 tc, .string td] := hR
     obtain ⟨y0, y1, y2⟩ := cells3 hR'
     have hYl2 := hR'.lt
     have nd := (Below.refl wc.heap.size wc).alloc (nL _) (.cells #[.int .i64 tk, .int .i64 tc, .string td] 54)
     have hXd := RowTo.whole wc #[.int .i64 tk, .int .i64 tc, .string td] 54
     obtain ⟨b', off', cap, w8, hrun, hs8, hgr, hb8⟩ := ((hs.below (hB.mono (nL _))).below nd).append (P := Tryz.prog) 24 24 i0 _ 32 Tryz.underlying24 hi hz0 hz1 hz2 rfl (by omega) ⟨wc.heap.size, 0, none⟩ 1 [.int .i64 tk, .int .i64 tc, .string td] rfl (fun j u hu => by
      obtain ⟨hj, hu⟩ := List.getElem?_eq_some_iff.1 hu
      rw [← hu]
      rw [Addr.add_lit, Nat.zero_add]
      exact hXd.cell (j := j) hj) (fun u hu => by simp at hu; rcases hu with rfl | rfl | rfl <;> rfl) (by unfold maxLen; omega) (by omega)
     have HF : Hid (ActsAt w w8 (.slice (some ⟨b', off', none⟩) ((actsR l k n).length + 1) cap) (actsR l (k + 1) n)) := hD (by
      rw [HS1.out]
      refine ⟨⟨some b', ?_, fun y hy => ?_⟩, ?_⟩
      ·rw [List.length_append, List.map_append, List.flatten_append]; exact hs8
      ·injection hy with hy; subst hy
       rcases hb8 with h | h
       ·exact hg _ h
       ·have := h.1; rw [World.size_alloc] at this; omega
      ·exact (bel_add' (bel_add' HR.out.bel hB hbs) nd (by omega)).grown hgr (by rw [World.size_alloc]; omega) (fun y hy => hg y hy))
     obtain ⟨A', c', hv', _⟩ := hs.shape
     clear hs hR hR' hB hs8 hgr hb8 hXd nd hi hz0 hz1 hz2 hg hbs hbs2 HR7 HX7 HB7 HMS HMB HB2 HT2 HP HWY
     generalize (actsR l k n).length = nk at *
     subst hv'
     go_wp2_with (at_builtin; refine Lib.wpList_append_run _ rfl _ _ _ _ rfl _ _ rfl rfl _ _ hrun ?_)
     go_roundw
     case rel => exact ⟨k + 1, by omega, by omega, by go_num, HF.out⟩
     case measure => simp [intOf]; omega
  ·have HTK := hD (show actsR l k n = actsR l most n by
    unfold actsR
    by_cases h : k < l.length
    ·rw [show k = most by omega]
    ·rw [List.take_of_length_le (show l.length ≤ most by omega), List.take_of_length_le (show l.length ≤ k by omega)])
   by_cases h1 : k < l.length
   ·have h2 : ¬ k < most := fun h => hlt ⟨h1, h⟩
    clear hlt
    go_wp2
    go_ret
    exact ⟨_, rfl, by rw [← HTK.out]; exact HR.out⟩
   ·clear hlt
    go_wp2
    go_ret
    exact ⟨_, rfl, by rw [← HTK.out]; exact HR.out⟩
end Go.Proofs.YtpbaobmegomfpabGreatDoor
namespace Go.Proofs.YtpbaobmegomfpabGreatDoor
open Go.RowKit
def encA (x : Act) : List Value := [.int .i64 x.kind, .int .i64 x.c, .string x.data]
section
variable {w : World} {b off cap : Nat} {d : List (Act)}
theorem Rw.cA (h : Rw w 54 3 b off cap (d.map encA)) {i : Nat} (hi : i < d.length) : w.cell? ⟨b, off + i * 3, none⟩ = some (.int .i64 d[i].kind) ∧ w.cell? ⟨b, off + i * 3 + 1, none⟩ = some (.int .i64 d[i].c) ∧ w.cell? ⟨b, off + i * 3 + 2, none⟩ = some (.string d[i].data) := by
 have hi' : i < (d.map encA).length := by simpa using hi
 have h0 := h.cell i hi' 0 (by omega)
 have h1 := h.cell i hi' 1 (by omega)
 have h2 := h.cell i hi' 2 (by omega)
 rw [List.getElem_map] at h0
 rw [List.getElem_map] at h1
 rw [List.getElem_map] at h2
 exact ⟨by simpa [encA] using h0, by simpa [encA] using h1, by simpa [encA] using h2⟩
end
set_option maxHeartbeats 400000 in
theorem indexFuncA (p : Act → Bool) (w : World) (b off cap B : Nat) (d : List (Act)) (hR : Rw w 54 3 b off cap (d.map encA)) (hby : d.length ≤ 1000000000000000) (hB : B ≤ b)
  (hp : ∀ x ∈ d, ∀ wc, Below B w wc → Calls Tryz.prog 41 #[.agg #[.int .i64 x.kind, .int .i64 x.c, .string x.data]] wc fun e w' => e = .returned (.bool (p x)) ∧ Below wc.heap.size wc w') :
  Calls Tryz.prog 60 #[.slice (some ⟨b, off, none⟩) d.length cap, .func (.func 41) #[] #[]] w fun e w' => (∃ i : Int, e = .returned (.int .i64 i) ∧ ((i = -1 ∧ ∀ x ∈ d, p x = false) ∨ ∃ k, ∃ hk : k < d.length, i = k ∧ p d[k] = true ∧ ∀ x ∈ d.take k, p x = false)) ∧ Below w.heap.size w w' := by
 have hbl := hR.row.lt
 have HR := hD hR
 have HP := hD hp
 have hcap : d.length ≤ cap := by simpa using hR.room
 clear hR hp
 go_enter Tryz.func60, Tryz.ntmps60
 go_wp2
 go_loopw [8] (fun i wr => ∃ k : Nat, k ≤ d.length ∧ i = .int .i64 k ∧ Hid ((∀ x ∈ d.take k, p x = false) ∧ Below w.heap.size w wr)) (fun i _ => d.length - (intOf i).toNat)
 case atStart => exact ⟨0, by omega, rfl, (fun x hx => by simp at hx), Below.refl _ _⟩
 case round =>
  obtain ⟨k, hk, rfl, HZ⟩ := hrel
  by_cases hlt : k < d.length
  ·have hRk := HR.out.below HZ.out.2 hbl
   obtain ⟨a0, a1, a2⟩ := hRk.cA hlt
   have hblr : b < wr.heap.size := Nat.lt_of_lt_of_le hbl HZ.out.2.size
   have HC := hD (HP.out d[k] (List.getElem_mem hlt) wr (HZ.out.2.mono (by omega)))
   have HT := hD (fun (h : p d[k] = true) => (show ∃ k', ∃ hk : k' < d.length, (k : Int) = k' ∧ p d[k'] = true ∧ ∀ x ∈ d.take k', p x = false from ⟨k, hlt, rfl, h, HZ.out.1⟩))
   have HF := hD (fun (h : p d[k] = false) => (show ∀ x ∈ d.take (k + 1), p x = false from fun x hx => by
    rw [List.take_succ_eq_append_getElem hlt] at hx
    rcases List.mem_append.1 hx with hx | hx
    ·exact HZ.out.1 x hx
    ·rw [List.mem_singleton.1 hx]; exact h))
   have HZ2 := hD HZ.out.2
   generalize d[k] = x at *
   clear HZ hRk
   cases hq : p x with
   | true =>
    have HT2 := hD (HT.out hq)
    rw [hq] at HC
    clear HT HF hq
    go_wp2_with fail
    refine HC.out.mono ?_
    rintro e w2 ⟨rfl, hb2⟩
    have HB2 := hD (HZ2.out.trans (hb2.mono HZ2.out.size))
    clear hb2
    go_wp2
    go_ret
    exact ⟨⟨k, rfl, .inr HT2.out⟩, HB2.out⟩
   | false =>
    have HF2 := hD (HF.out hq)
    rw [hq] at HC
    clear HT HF hq
    go_wp2_with fail
    refine HC.out.mono ?_
    rintro e w2 ⟨rfl, hb2⟩
    have HB2 := hD (HZ2.out.trans (hb2.mono HZ2.out.size))
    clear hb2
    go_wp2
    go_roundw
    case rel => exact ⟨k + 1, by omega, by go_num, HF2.out, HB2.out⟩
    case measure => simp [intOf]; omega
  ·obtain rfl : k = d.length := by omega
   rw [List.take_length] at HZ
   go_wp2
   go_ret
   exact ⟨⟨-1, rfl, .inl ⟨rfl, HZ.out.1⟩⟩, HZ.out.2⟩
set_option maxHeartbeats 1000000 in
theorem deleteFuncA (p : Act → Bool) (w : World) (b off cap B : Nat) (d : List (Act)) (hR : Rw w 54 3 b off cap (d.map encA)) (hby : d.length ≤ 1000000000000000) (hB : B ≤ b)
  (hp : ∀ x ∈ d, ∀ wc, Below B w wc → Calls Tryz.prog 41 #[.agg #[.int .i64 x.kind, .int .i64 x.c, .string x.data]] wc fun e w' => e = .returned (.bool (p x)) ∧ Below wc.heap.size wc w') :
  Calls Tryz.prog 39 #[.slice (some ⟨b, off, none⟩) d.length cap, .func (.func 41) #[] #[]] w fun e w' => e = .returned (.slice (some ⟨b, off, none⟩) (d.filter fun x => !p x).length cap) ∧ Rw w' 54 3 b off cap ((d.filter fun x => !p x).map encA) ∧ Below B w w' ∧ ∀ g, g < w.heap.size → g ≠ b → w'.heap[g]? = w.heap[g]? := by
 have hbl := hR.row.lt
 have HI := hD (indexFuncA p w b off cap B d hR hby hB hp)
 have HR := hD hR
 have HP := hD hp
 have hcap : d.length ≤ cap := by simpa using hR.room
 clear hR hp
 go_enter Tryz.func39, Tryz.ntmps39
 go_wp2_with fail
 refine HI.out.mono ?_
 rintro e w1 ⟨⟨i, rfl, hi⟩, hb1⟩
 have HB1 := hD hb1
 clear HI hb1
 rcases hi with ⟨rfl, hall⟩ | ⟨k, hk, rfl, h1, h0⟩
 ·have HA := hD (show (d.filter fun x => !p x) = d from List.filter_eq_self.2 fun x hx => by rw [hall x hx]; rfl)
  clear hall
  go_wp2
  go_ret
  rw [HA.out]
  exact ⟨rfl, HR.out.below HB1.out hbl, HB1.out.mono (by omega), fun g hg _ => HB1.out.block g hg⟩
 ·have HK := hD (KeepI.start hk h1 h0)
  have hne : ((k : Int) == -1) = false := beq_eq_false_iff_ne.2 (by omega)
  clear h1 h0
  go_wp2_with fail
  go_loopw [5, 6, 7] (fun s5 s6 s7 wr => ∃ (i j : Nat) (dk : List (Act)), s5 = .int .i64 i ∧ s6 = .int .i64 j ∧ i < j ∧ j ≤ d.length ∧ Hid (KeepI p d i j dk ∧ Rw wr 54 3 b off cap (dk.map encA) ∧ Below B w wr ∧ (w.heap.size ≤ wr.heap.size) ∧ ∀ g, g < w.heap.size → g ≠ b → wr.heap[g]? = w.heap[g]?)) (fun _ s6 _ _ => d.length - (intOf s6).toNat)
  case atStart => exact ⟨k, k + 1, d, rfl, by go_num, by omega, by omega, HK.out, HR.out.below HB1.out hbl, HB1.out.mono (by omega), HB1.out.size, fun g hg _ => HB1.out.block g hg⟩
  case round =>
   obtain ⟨i, j, dk, rfl, rfl, hij, hjn, HZ⟩ := hrel
   clear HK HB1
   by_cases hlt : j < d.length
   ·have hRk := HZ.out.2.1
    have hlk := HZ.out.1.len
    have c0 := hRk.cA (i := j) (by omega)
    have z0 := hRk.cA (i := i) (by omega)
    rw [HZ.out.1.at hlt] at c0
    obtain ⟨a0, a1, a2⟩ := c0
    obtain ⟨z0, z1, z2⟩ := z0
    have f0 := hRk.row.frozen (off + i * 3)
    have f1 := hRk.row.frozen (off + i * 3 + 1)
    have f2 := hRk.row.frozen (off + i * 3 + 2)
    have hbr := hRk.row.lt
    have y0 := (RowTo.whole wr #[.int .i64 d[j].kind, .int .i64 d[j].c, .string d[j].data] 54).cell (j := 0) (by simp)
    have y1 := (RowTo.whole wr #[.int .i64 d[j].kind, .int .i64 d[j].c, .string d[j].data] 54).cell (j := 1) (by simp)
    have y2 := (RowTo.whole wr #[.int .i64 d[j].kind, .int .i64 d[j].c, .string d[j].data] 54).cell (j := 2) (by simp)
    have HC := hD (HP.out d[j] (List.getElem_mem hlt) (wr.alloc (.cells #[.int .i64 d[j].kind, .int .i64 d[j].c, .string d[j].data] 54)) (HZ.out.2.2.1.alloc (by have := HZ.out.2.2.2.1; omega) _))
    have HKK := hD (fun (h : p d[j] = false) => HZ.out.1.keep hlt h)
    have HKS := hD (fun (h : p d[j] = true) => HZ.out.1.skip hlt h)
    have hjI : (j : Int) < (d.length : Int) := by omega
    have HM := hD (List.getElem_mem hlt)
    generalize d[j] = x at *
    skip
    clear hRk
    cases hq : p x with
    | true =>
     have HK2 := hD (HKS.out hq)
     rw [hq] at HC
     clear HKS HKK hq
     go_wp2_with fail
     refine HC.out.mono ?_
     rintro e w2 ⟨rfl, hb2⟩
     have HB2 := hD hb2
     clear hb2
     have hw2 : Below (wr.alloc (.cells #[.int .i64 x.kind, .int .i64 x.c, .string x.data] 54)).heap.size (wr.alloc (.cells #[.int .i64 x.kind, .int .i64 x.c, .string x.data] 54)) w2 := HB2.out
     have hz2 := hw2.size
     simp only [World.size_alloc] at hz2
     have hn2 : ∀ g, g < wr.heap.size → w2.heap[g]? = wr.heap[g]? := fun g hg => (hw2.block g (by simp; omega)).trans (Below.heap_alloc _ _ _ hg)
     have H2 := hD (And.intro (HZ.out.2.1.keep (hn2 b hbr)) (And.intro (show Below B w w2 from (HZ.out.2.2.1.alloc (by have := HZ.out.2.2.2.1; omega) _).trans (hw2.mono (by simp; have := HZ.out.2.2.2.1; omega))) (And.intro (show w.heap.size ≤ w2.heap.size by have := HZ.out.2.2.2.1; have := hw2.size; omega) (fun g (hg : g < w.heap.size) (hne : g ≠ b) => (hn2 g (by have := HZ.out.2.2.2.1; omega)).trans (HZ.out.2.2.2.2 g hg hne)))))
     have hb2' : b < w2.heap.size := by have := hw2.size; simp at this; omega
     have u0 := (hw2.cell (p := ⟨wr.heap.size, 0, none⟩) (by simp)).trans y0
     have u1 := (hw2.cell (p := ⟨wr.heap.size, 1, none⟩) (by simp)).trans y1
     have u2 := (hw2.cell (p := ⟨wr.heap.size, 2, none⟩) (by simp)).trans y2
     go_wp2
     go_roundw
     case rel => exact ⟨i, j + 1, dk, rfl, by go_num, by omega, by omega, HK2.out, H2.out.1, H2.out.2.1, H2.out.2.2.1, H2.out.2.2.2⟩
     case measure => simp [intOf]; omega
    | false =>
     have HK2 := hD (HKK.out hq)
     rw [hq] at HC
     clear HKS HKK hq
     go_wp2_with fail
     refine HC.out.mono ?_
     rintro e w2 ⟨rfl, hb2⟩
     have HB2 := hD hb2
     clear hb2
     have hw2 : Below (wr.alloc (.cells #[.int .i64 x.kind, .int .i64 x.c, .string x.data] 54)).heap.size (wr.alloc (.cells #[.int .i64 x.kind, .int .i64 x.c, .string x.data] 54)) w2 := HB2.out
     have hz2 := hw2.size
     simp only [World.size_alloc] at hz2
     have hn2 : ∀ g, g < wr.heap.size → w2.heap[g]? = wr.heap[g]? := fun g hg => (hw2.block g (by simp; omega)).trans (Below.heap_alloc _ _ _ hg)
     have H2 := hD (And.intro (HZ.out.2.1.keep (hn2 b hbr)) (And.intro (show Below B w w2 from (HZ.out.2.2.1.alloc (by have := HZ.out.2.2.2.1; omega) _).trans (hw2.mono (by simp; have := HZ.out.2.2.2.1; omega))) (And.intro (show w.heap.size ≤ w2.heap.size by have := HZ.out.2.2.2.1; have := hw2.size; omega) (fun g (hg : g < w.heap.size) (hne : g ≠ b) => (hn2 g (by have := HZ.out.2.2.2.1; omega)).trans (HZ.out.2.2.2.2 g hg hne)))))
     have hb2' : b < w2.heap.size := by have := hw2.size; simp at this; omega
     have u0 := (hw2.cell (p := ⟨wr.heap.size, 0, none⟩) (by simp)).trans y0
     have u1 := (hw2.cell (p := ⟨wr.heap.size, 1, none⟩) (by simp)).trans y1
     have u2 := (hw2.cell (p := ⟨wr.heap.size, 2, none⟩) (by simp)).trans y2
     have hi2 : i < (dk.map encA).length := by rw [List.length_map, HZ.out.1.len]; omega
     have H3 := hD (And.intro (H2.out.1.set hi2 (e := encA x) rfl) (And.intro (below_setCells H2.out.2.1 hB (off + i * 3) (encA x)) (And.intro (show w.heap.size ≤ (w2.setCells b (off + i * 3) (encA x)).heap.size by rw [(setCells_keeps b _ _ _).2.2.2]; exact H2.out.2.2.1) (fun g (hg : g < w.heap.size) (hne : g ≠ b) => (setCells_other w2 b (off + i * 3) (encA x) hne).trans (H2.out.2.2.2 g hg hne)))))
     rw [← List.map_set] at H3
     have v0 := (World.cell?_of_block (a := ⟨b, off + i * 3, none⟩) (hn2 b hbr)).trans z0
     have g0 := (World.frozen?_of_block (a := ⟨b, off + i * 3, none⟩) (hn2 b hbr)).trans f0
     have v1 := (World.cell?_of_block (a := ⟨b, off + i * 3 + 1, none⟩) (hn2 b hbr)).trans z1
     have g1 := (World.frozen?_of_block (a := ⟨b, off + i * 3 + 1, none⟩) (hn2 b hbr)).trans f1
     have v2 := (World.cell?_of_block (a := ⟨b, off + i * 3 + 2, none⟩) (hn2 b hbr)).trans z2
     have g2 := (World.frozen?_of_block (a := ⟨b, off + i * 3 + 2, none⟩) (hn2 b hbr)).trans f2
     simp only [World.setCells, encA] at H3
     go_wp2
     go_roundw
     case rel => exact ⟨i + 1, j + 1, dk.set i x, by go_num, by go_num, by omega, by omega, HK2.out, H3.out.1, H3.out.2.1, H3.out.2.2.1, H3.out.2.2.2⟩
     case measure => simp [intOf]; omega
   ·obtain rfl : j = d.length := by omega
    have hRk := HZ.out.2.1
    have hlk := HZ.out.1.len
    have hbr := hRk.row.lt
    have hcl : ∀ ty, (Builtin.clear_ #[24] ty #[.slice (some ⟨b, off + i * 3, none⟩) (d.length - i) (cap - i)]).run Tryz.prog wr = .ok (.tuple #[]) (wr.setCells b (off + i * 3) (Builtin.zeroCells ((.agg #[.int .i64 0, .int .i64 0, .string ⟨#[]⟩]) : Value).cells (d.length - i)).toList) := fun ty => by
     refine run_clear_cells (P := Tryz.prog) wr 24 54 ty (.agg #[.int .i64 0, .int .i64 0, .string ⟨#[]⟩]) Tryz.underlying24 Tryz.zeroValue54 (by simp [Value.cells, Value.oneCell']) (by decide) b (off + i * 3) (d.length - i) (cap - i) (by omega) (fun q hq => ?_) (fun q => hRk.row.frozen _)
     obtain ⟨u, hu⟩ := hRk.row.any (j := off + i * 3 + q) (by have : q < (d.length - i) * 3 := hq; have : d.length * 3 ≤ cap * 3 := Nat.mul_le_mul_right _ hcap; omega)
     rw [hu]; rfl
    have H2 := hD (hRk.behind (i := i) (by rw [List.length_map]; omega) (Builtin.zeroCells ((.agg #[.int .i64 0, .int .i64 0, .string ⟨#[]⟩]) : Value).cells (d.length - i)).toList)
    rw [← List.map_take, HZ.out.1.done] at H2
    have HN := hD HZ.out.1.num
    have H3 := hD (And.intro (below_setCells HZ.out.2.2.1 hB (off + i * 3) (Builtin.zeroCells ((.agg #[.int .i64 0, .int .i64 0, .string ⟨#[]⟩]) : Value).cells (d.length - i)).toList) (fun g (hg : g < w.heap.size) (hne : g ≠ b) => (setCells_other wr b (off + i * 3) (Builtin.zeroCells ((.agg #[.int .i64 0, .int .i64 0, .string ⟨#[]⟩]) : Value).cells (d.length - i)).toList hne).trans (HZ.out.2.2.2.2 g hg hne)))
    clear hRk
    go_wp2
    go_ret
    refine ⟨by rw [HN.out]; rfl, H2.out, H3.out.1, H3.out.2⟩
end Go.Proofs.YtpbaobmegomfpabGreatDoor
namespace Go.Proofs.YtpbaobmegomfpabGreatDoor
open Go.RowKit
theorem byte_x (s : ByteArray) (h : 1 ≤ s.size) : ((s.extract 0 1).toList == [88]) = decide (s.data[0]? = some 88) := by
 have h0 : 0 < s.data.size := h
 have e : (s.extract 0 1).toList = [s.data[0]] := by
  rw [Lib.toList_data, ext_list]
  simp only [List.drop_zero]
  cases hl : s.data.toList with
  | nil => exfalso; have := congrArg List.length hl; rw [Array.length_toList] at this; simp only [List.length_nil] at this; omega
  | cons a l =>
   have : s.data[0] = a := by
    have : s.data.toList[0]'(by rw [hl]; simp) = a := by simp [hl]
    simpa using this
   simp [this]
 rw [e, Array.getElem?_eq_getElem h0]
 by_cases h88 : s.data[0] = 88
 ·rw [h88]; rfl
 ·rw [decide_eq_false (fun hh => h88 (by injection hh))]
  refine beq_eq_false_iff_ne.2 fun hh => h88 ?_
  injection hh
theorem prefX_any (s : ByteArray) (w : World) (hs : s.size ≤ maxLen) : Calls Tryz.prog 42 #[.string s, .string ⟨#[88]⟩] w fun e w' => e = .returned (.bool (decide (1 ≤ s.size) && decide (s.data[0]? = some 88))) ∧ w = w' := by
 by_cases h : 1 ≤ s.size
 ·have hx := byte_x s h
  have h1 : decide (1 ≤ s.size) = true := decide_eq_true h
  have h2 : decide (1 ≤ (s.size : Int)) = true := decide_eq_true (by omega)
  have hI : (1 : Int) ≤ (s.size : Int) := by omega
  obtain ⟨q, hq⟩ : ∃ q, decide (s.data[0]? = some 88) = q := ⟨_, rfl⟩
  rw [hq] at hx ⊢
  rw [h1, Bool.true_and]
  clear h1 hq
  go_enter Tryz.func42, Tryz.ntmps42
  go_wp2
  go_ret
  exact ⟨rfl, rfl⟩
 ·have h1 : decide (1 ≤ s.size) = false := decide_eq_false h
  have h2 : decide (1 ≤ (s.size : Int)) = false := decide_eq_false (by omega)
  rw [h1, Bool.false_and]
  clear h1
  go_enter Tryz.func42, Tryz.ntmps42
  go_wp2
  go_ret
  exact ⟨rfl, rfl⟩
theorem gone_any (a : Act) (w : World) (hs : a.data.size ≤ maxLen) : Calls Tryz.prog 41 #[.agg #[.int .i64 a.kind, .int .i64 a.c, .string a.data]] w fun e w' => e = .returned (.bool (goneB a)) ∧ Below w.heap.size w w' := by
 have HP := hD (fun wc => prefX_any a.data wc hs)
 by_cases h : a.kind = 2
 ·have t1 : (a.kind == 2) = true := by simp [h]
  have hg : goneB a = true := by unfold goneB; rw [decide_eq_true h]; rfl
  rw [hg]
  clear h hg
  generalize a.kind = k at *
  generalize a.c = c at *
  generalize a.data = d at *
  go_enter Tryz.func41, Tryz.ntmps41
  go_wp2
  go_ret
  exact ⟨rfl, (Below.refl _ _).alloc (nL _) _⟩
 ·have t1 : (a.kind == 2) = false := by simp [h]
  have hg : goneB a = (decide (1 ≤ a.data.size) && decide (a.data.data[0]? = some 88)) := by unfold goneB; rw [decide_eq_false h]; rfl
  rw [hg]
  clear h hg
  generalize a.kind = k at *
  generalize a.c = c at *
  generalize a.data = d at *
  generalize (decide (1 ≤ d.size) && decide (d.data[0]? = some 88)) = q at *
  go_enter Tryz.func41, Tryz.ntmps41
  go_wp2_with fail
  refine (HP.out _).mono ?_
  rintro e w1 ⟨rfl, rfl⟩
  go_wp2
  go_ret
  exact ⟨rfl, (Below.refl _ _).alloc (nL _) _⟩
theorem actV_len (al : List Act) : ∀ e ∈ al.map actV, e.length = 3 := fun e he => by obtain ⟨x, _, rfl⟩ := List.mem_map.1 he; rfl
theorem Sl.alst {w : World} {out : Value} {g : Option Nat} {al : List Act} (h : Sl w 54 3 out g al.length (al.map actV).flatten) (hby : al.length * 32 ≤ 140737488351232) (hs : ∀ a ∈ al, a.data.size ≤ 140737488351232) : ALst w w.heap.size out al := by
 obtain ⟨A, c, rfl, hc⟩ := h.shape
 refine ⟨⟨A, c, rfl, hc⟩, hby, hs, fun hn => ?_⟩
 obtain ⟨b, off, cap, h1, h2, h3, h4⟩ := h.at hn
 refine ⟨b, off, cap, h2, h.lt h1, fun i hi => ?_⟩
 have hf : ∀ j, j < 3 → w.cell? ⟨b, off + (i * 3 + j), none⟩ = (actV al[i])[j]? := fun j hj => by
  have hf := flat_get (d := al.map actV) (size := 3) (actV_len al) (i := i) (by simpa using hi) hj
  rw [List.getElem_map] at hf
  have hl : i * 3 + j < (al.map actV).flatten.length := by rw [h.len]; exact at_in hi hj
  rw [h4 _ hl, ← List.getElem?_eq_getElem hl]
  exact hf
 have h0 := hf 0 (by omega)
 have h1 := hf 1 (by omega)
 have h2 := hf 2 (by omega)
 rw [← Nat.add_assoc] at h0 h1 h2
 exact ⟨h0, h1, h2⟩
theorem ActsAt.alst {w w' : World} {out : Value} {al : List Act} (h : ActsAt w w' out al) (hby : al.length ≤ 1000) (hs : ∀ a ∈ al, a.data.size ≤ 1000) : ALst w' w'.heap.size out al := by
 obtain ⟨g, h1, _⟩ := h.sl
 exact h1.alst (by omega) (fun a ha => by have := hs a ha; omega)
theorem Rw.alst {w : World} {b off cap : Nat} {al : List Act} (h : Rw w 54 3 b off cap (al.map encA)) (hby : al.length ≤ 1000) (hs : ∀ a ∈ al, a.data.size ≤ 1000) : ALst w w.heap.size (.slice (some ⟨b, off, none⟩) al.length cap) al :=
 ⟨⟨_, _, rfl, by simpa using h.room⟩, by omega, fun a ha => by have := hs a ha; omega, fun _ => ⟨b, off, cap, rfl, h.row.lt, fun i hi => h.cA hi⟩⟩
set_option maxHeartbeats 400000 in
theorem indexFuncA_nil (A : Option Addr) (c : Nat) (w : World) : Calls Tryz.prog 60 #[.slice A 0 c, .func (.func 41) #[] #[]] w fun e w' => e = .returned (.int .i64 (-1)) ∧ w' = w := by
 go_enter Tryz.func60, Tryz.ntmps60
 go_wp2
 go_loopw [8] (fun i wr => i = .int .i64 0 ∧ wr = w) (fun i _ => 0)
 case atStart => exact ⟨rfl, rfl⟩
 case round =>
  obtain ⟨rfl, rfl⟩ := hrel
  go_wp2
  go_ret
  exact ⟨rfl, rfl⟩
set_option maxHeartbeats 400000 in
theorem deleteFuncA_nil (A : Option Addr) (c : Nat) (w : World) : Calls Tryz.prog 39 #[.slice A 0 c, .func (.func 41) #[] #[]] w fun e w' => e = .returned (.slice A 0 c) ∧ w' = w := by
 have HI := hD (indexFuncA_nil A c)
 go_enter Tryz.func39, Tryz.ntmps39
 go_wp2_with fail
 refine (HI.out _).mono ?_
 rintro e w1 ⟨rfl, rfl⟩
 go_wp2
 go_ret
 exact ⟨rfl, rfl⟩
set_option maxHeartbeats 1000000 in
theorem staying_any (v : Value) (l : List Raw) (most n : Nat) (w : World) (hl : RLst w w.heap.size v l) (hWo : Words w) (hn : 0 < n) (hn6 : n ≤ 6) (hm : most ≤ 1000) :
  Calls Tryz.prog 22 #[v, .int .i64 most, .int .i64 n] w fun e w' => ∃ out, e = .returned out ∧ ALst w' w'.heap.size out (stayR l most n) ∧ Below w.heap.size w w' := by
 obtain ⟨E, e, rfl, he⟩ := hl.form
 have HA := hD (acts_any (.slice E l.length e) l most n w hl hWo hn hn6 hm)
 have hlen := actsR_len (l := l) (most := most) (n := n)
 have hsz : ∀ a ∈ actsR l most n, a.data.size ≤ 1000 := fun a ha => by
  obtain ⟨r, _, rfl⟩ := List.mem_map.1 ha
  have := dataR_size r
  show (dataR r).size ≤ _
  omega
 have HSR := hD (show stayR l most n = (actsR l most n).filter (fun a => !goneB a) from rfl)
 rw [HSR.out]
 generalize actsR l most n = al at *
 clear hl hWo HSR
 go_enter Tryz.func22, Tryz.ntmps22
 go_wp2_with fail
 refine HA.out.mono ?_
 rintro e w1 ⟨out, rfl, hA⟩
 obtain ⟨g, hs, hg⟩ := hA.sl
 have HB1 := hD hA.bel
 by_cases h0 : al.length = 0
 ·have ha0 : al = [] := List.eq_nil_of_length_eq_zero h0
  subst ha0
  obtain ⟨A, c, rfl, _⟩ := hs.shape
  have HN := hD (show ALst w1 w1.heap.size (.slice A 0 c) [] from ⟨⟨A, c, rfl, Nat.zero_le _⟩, (by simp), (fun a ha => (by cases ha)), fun h => absurd h (by simp)⟩)
  have HD := hD (deleteFuncA_nil A c)
  simp only [List.length_nil]
  clear hA hs hg HA
  go_wp2_with fail
  refine (HD.out _).mono ?_
  rintro e w2 ⟨rfl, rfl⟩
  go_wp2
  go_ret
  exact ⟨_, rfl, HN.out, HB1.out⟩
 ·obtain ⟨b, off, cap, h1, rfl, hR⟩ := hs.rw (actV_len al) (by simp) (by omega)
  have HD := hD (deleteFuncA goneB w1 b off cap w.heap.size al hR (by omega) (hg b h1) (fun x hx wc _ => gone_any x wc (by have := hsz x hx; unfold maxLen; omega)))
  have HF := hD (show ∀ w2, Rw w2 54 3 b off cap ((al.filter fun x => !goneB x).map encA) → ALst w2 w2.heap.size (.slice (some ⟨b, off, none⟩) (al.filter fun x => !goneB x).length cap) (al.filter fun x => !goneB x) from fun w2 h => h.alst (by have := List.length_filter_le (fun x => !goneB x) al; omega) (fun a ha => hsz a (List.mem_filter.1 ha).1))
  clear hA hs hg HA h1 hR
  go_wp2_with fail
  refine HD.out.mono ?_
  rintro e w2 ⟨rfl, hR2, hB2, hk2⟩
  have H2 := hD (And.intro (HF.out _ hR2) (HB1.out.trans hB2))
  clear hR2 hB2 hk2
  go_wp2
  go_ret
  exact ⟨_, rfl, H2.out.1, H2.out.2⟩
end Go.Proofs.YtpbaobmegomfpabGreatDoor
namespace Go.Proofs.YtpbaobmegomfpabGreatDoor
open Go.RowKit
set_option maxHeartbeats 400000 in
theorem equalP_same (v v' : Value) (l : PL) (w : World) (B : Nat) (hl : Lst w B v l) (hl' : Lst w B v' l) :
  Calls Tryz.prog 18 #[v, v'] w fun e w' => e = .returned (.bool true) ∧ ∃ n, w' = w.drewN n := by
 obtain ⟨A, c, rfl, hc⟩ := hl.form
 obtain ⟨A', c', rfl, hc'⟩ := hl'.form
 have hby := hl.bytes
 have HL := hD hl
 have HL' := hD hl'
 have hne : ((l.length : Int) != (l.length : Int)) = false := by simp
 clear hl hl'
 go_enter Tryz.func18, Tryz.ntmps18
 go_wp2
 go_loopw [13] (fun i wr => ∃ k : Nat, k ≤ l.length ∧ i = .int .i64 k ∧ ∃ n, wr = w.drewN n) (fun i _ => l.length - (intOf i).toNat)
 case atStart => exact ⟨0, by omega, rfl, 0, rfl⟩
 case round =>
  obtain ⟨k, hk, rfl, n, rfl⟩ := hrel
  by_cases hlt : k < l.length
  ·obtain ⟨b, off, rfl, hb, c0, c1⟩ := HL.out.pt hlt
   obtain ⟨b', off', rfl, hb', c0', c1'⟩ := HL'.out.pt hlt
   go_wp2
   go_quiet (fail)
   go_wp2
   go_roundw
   case rel => exact ⟨k + 1, by omega, by go_num, n + nq, rfl⟩
   case measure => simp [intOf]; omega
  ·go_wp2
   go_ret
   exact ⟨rfl, _, rfl⟩
end Go.Proofs.YtpbaobmegomfpabGreatDoor
namespace Go.Proofs.YtpbaobmegomfpabGreatDoor
open Go.RowKit
theorem laid_mem {P : Program} {w : World} {n : String} {d : DataW Unit} : ∀ {l : List (String × DataW Unit)} {ps : List MemPlace}, DataW.LaidVars P w l ps → (n, d) ∈ l →
  ∃ g t cs fuel p, P.globalNamed n = some g ∧ (P.globals[g]?).map (·.type) = some t ∧ w.var? P n = some cs ∧ DataW.trod (fun _ => ()) P w 0 (fun _ => true) false fuel t cs.toList = some (d, p)
 | [], _, _, h => by cases h
 | (m, e) :: l, ps, hl, h => by
  obtain ⟨g, t, cs, fuel, p, q, h1, h2, h3, h4, h5, _⟩ := hl
  rcases List.mem_cons.1 h with he | he
  ·cases he
   exact ⟨g, t, cs, fuel, p, h1, h2, h3, h4⟩
  ·exact laid_mem h5 he
theorem strs_of {P : Program} {w : World} {fuel : Nat} {t e : TypeId} {n : Nat} {cs : List Value} {ss : List (List UInt8)} {p : List MemPlace}
  (ht : P.underlying t = some (.array n e)) (he : P.underlying e = some .string) (hce : P.cellsOf e = 1) (hct : P.cellsOf t = n)
  (h : DataW.trod (fun _ => ()) P w 0 (fun _ => true) false fuel t cs = some (.agg (ss.map fun s => .lit (.string s)), p)) : cs = ss.map fun s => Value.string ⟨s.toArray⟩ := by
 cases fuel with
 | zero => simp [DataW.trod] at h
 | succ fuel =>
  simp only [DataW.trod, ht, hce, hct, Nat.mul_one] at h
  split at h
  ·obtain ⟨xs, hm, hx⟩ := Option.map_eq_some_iff.1 h
   have hxs : xs.map (·.1) = ss.map fun s => (DataW.lit (.string s) : DataW Unit) := by
    have := congrArg Prod.fst hx
    simpa using this
   have hxl : xs.length = n := by simpa using Lib.mapM_length hm
   have hzl : ss.length = n := by
    have := congrArg List.length hxs
    simp at this
    omega
   apply List.ext_getElem?
   intro i
   by_cases hi : i < n
   ·obtain ⟨b, hb, hf⟩ := Lib.mapM_at hm i i (by simp [hi])
    obtain ⟨z, hc, rfl, _⟩ := DataW.trod_string he hf
    have h1 : cs[i]? = some (.string z) := by
     have := congrArg (·[0]?) hc
     simpa [List.getElem?_take, List.getElem?_drop] using this
    have h2 : (xs.map (·.1))[i]? = some (DataW.lit (.string z.data.toList) : DataW Unit) := by simp [hb]
    rw [hxs] at h2
    simp only [List.getElem?_map, Option.map_eq_some_iff, DataW.lit.injEq, Lit.string.injEq] at h2
    obtain ⟨s, hs, rfl⟩ := h2
    simp [h1, hs]
   ·rw [List.getElem?_eq_none (by omega), List.getElem?_eq_none (by simp; omega)]
  ·cases h
theorem tab_of {P : Program} {w : World} {n : String} {l : List (String × DataW Unit)} {ss : List (List UInt8)} {g : Nat} {t e : TypeId} {m : Nat}
  (hg : P.globalNamed n = some g) (hty : (P.globals[g]?).map (·.type) = some t) (ht : P.underlying t = some (.array m e)) (he : P.underlying e = some .string) (hce : P.cellsOf e = 1) (hct : P.cellsOf t = m)
  (h : laidMet P l w) (hin : (n, DataW.agg (ss.map fun s => .lit (.string s))) ∈ l) : g < w.heap.size ∧ ∀ i, i < ss.length → w.cell? ⟨g, i, none⟩ = some (.string ⟨(ss.getD i []).toArray⟩) := by
 obtain ⟨ps, hl, _⟩ := h
 obtain ⟨g', t', cs, fuel, p, h1, h2, h3, h4⟩ := laid_mem hl hin
 obtain rfl := Option.some.inj (hg.symm.trans h1)
 obtain rfl := Option.some.inj (hty.symm.trans h2)
 have hcs := strs_of ht he hce hct h4
 refine ⟨?_, fun i hi => ?_⟩
 ·simp only [World.var?, hg, Option.bind_some] at h3
  split at h3
  ·rename_i hh
   exact (Array.getElem?_eq_some_iff.1 hh).1
  ·cases h3
 ·rw [World.var?_cell hg h3 i]
  have : cs[i]? = cs.toList[i]? := by simp
  rw [this, hcs]
  simp [List.getD, hi]
end Go.Proofs.YtpbaobmegomfpabGreatDoor
namespace Go.Proofs.YtpbaobmegomfpabGreatDoor
open Go.RowKit
theorem words_of {l : List (String × DataW Unit)} {w : World} (h : laidMet Tryz.prog l w) (hin : ("tillerman/say.words", DataW.agg ((List.range 12).map fun k => .lit (.string (wordL k)))) ∈ l) : Words w := by
 have h2 : ("tillerman/say.words", DataW.agg (((List.range 12).map wordL).map fun s => .lit (.string s))) ∈ l := by
  rw [List.map_map]; exact hin
 obtain ⟨h3, h4⟩ := tab_of (P := Tryz.prog) (g := 1) (t := 125) (e := 9) (m := 12) (by kernel_rfl) (by kernel_rfl) Tryz.underlying125 Tryz.underlying9 (by kernel_rfl) (by kernel_rfl) h h2
 refine ⟨h3, fun k hk => ?_⟩
 rw [h4 k (by simp; omega)]
 have : ((List.range 12).map wordL).getD k [] = wordL k := by
  simp [List.getD, show k < 12 by omega]
 rw [this]; rfl
end Go.Proofs.YtpbaobmegomfpabGreatDoor
namespace Go.Proofs.YtpbaobmegomfpabGreatDoor
open Go.RowKit
theorem leads_of {l : List (String × DataW Unit)} {w : World} (h : laidMet Tryz.prog l w) (hin : ("tillerman/say.leads", DataW.agg ((List.range 5).map fun k => .lit (.string (leadL k)))) ∈ l) : Leads w := by
 have h2 : ("tillerman/say.leads", DataW.agg (((List.range 5).map leadL).map fun s => .lit (.string s))) ∈ l := by
  rw [List.map_map]; exact hin
 obtain ⟨h3, h4⟩ := tab_of (P := Tryz.prog) (g := 0) (t := 103) (e := 9) (m := 5) (by kernel_rfl) (by kernel_rfl) Tryz.underlying103 Tryz.underlying9 (by kernel_rfl) (by kernel_rfl) h h2
 refine ⟨h3, fun k hk => ?_⟩
 rw [h4 k (by simp; omega)]
 have : ((List.range 5).map leadL).getD k [] = leadL k := by
  simp [List.getD, show k < 5 by omega]
 rw [this]; rfl
end Go.Proofs.YtpbaobmegomfpabGreatDoor
namespace Go.Proofs.YtpbaobmegomfpabGreatDoor
open Go.RowKit
theorem tabs_of {w : World} (h1 : Words w) (h2 : Leads w) : Tabs w w.heap.size := ⟨h1, h2, h1.room, h2.room⟩
end Go.Proofs.YtpbaobmegomfpabGreatDoor
namespace Go.Proofs.YtpbaobmegomfpabGreatDoor
open Go.RowKit
structure PrvAt (w wr : World) (B bO bW : Nat) (v1 v2 v3 r s : Value) (W : Wd) (snt : List ByteArray) (ds : List Deed) (rows : PL) : Prop where
 o : RowTo wr bO 29 3 [v1, v2, v3]
 x : RowTo wr bW 39 2 [r, s]
 d : DLst wr B v2 ds
 rw : Lst wr B v3 rows
 wld : Wld wr wr.heap.size r s W
 ob : bO < bW
 bb : B ≤ bW
 wb : w.heap.size ≤ bW
 bel : Below w.heap.size w wr
theorem PrvAt.below {w wr w' : World} {B bO bW : Nat} {v1 v2 v3 r s : Value} {W : Wd} {snt : List ByteArray} {ds : List Deed} {rows : PL} (h : PrvAt w wr B bO bW v1 v2 v3 r s W snt ds rows) (hb : Below wr.heap.size wr w') : PrvAt w w' B bO bW v1 v2 v3 r s W snt ds rows := by
 have hB : B ≤ wr.heap.size := Nat.le_trans h.bb (Nat.le_of_lt h.x.lt)
 exact ⟨h.o.below hb h.o.lt, h.x.below hb h.x.lt, h.d.keep (nL _) (fun p hp => hb.cell (Nat.lt_of_lt_of_le hp hB)), h.rw.below (hb.mono hB), h.wld.step hb, h.ob, h.bb, h.wb, bel_add' h.bel hb h.bel.size⟩
theorem PrvAt.next {w wr : World} {B bO bW : Nat} {v1 v2 v3 r2 s2 : Value} {D A : Option Addr} {n d m c : Nat} {W V : Wd} {snt : List ByteArray} {ds : List Deed} {rows : PL} (h : PrvAt w wr B bO bW v1 v2 v3 (.slice D n d) (.slice A m c) W snt ds rows) (hw : Wld wr wr.heap.size r2 s2 V) :
  PrvAt w ((wr.setCell ⟨bW, 0, none⟩ r2).setCell ⟨bW, 1, none⟩ s2) B bO bW v1 v2 v3 r2 s2 V snt ds rows := by
 have hk : ∀ b, b ≠ bW → ((wr.setCell ⟨bW, 0, none⟩ r2).setCell ⟨bW, 1, none⟩ s2).heap[b]? = wr.heap[b]? := fun b hb => by rw [Below.heap_setCell _ _ _ _ hb, Below.heap_setCell _ _ _ _ hb]
 have hob := h.ob
 have hbb := h.bb
 refine ⟨h.o.oth2 (by omega) _ _, h.x.set2 _ _, h.d.keep (nL _) (fun p hp => World.cell?_of_block (hk _ (by omega))), ?_, hw.set2 h.x _ _, h.ob, h.bb, h.wb, bel_set2 h.bel h.wb _ _⟩
 exact h.rw.keep (nL _) (fun p hp => World.cell?_of_block (hk _ (by omega)))
theorem topPrivate.laidFacts {W : World} (h : laidMetH Tryz.prog Rows.topPrivateRow.laid W) : Tabs W W.heap.size :=
 tabs_of (words_of h (by simp [Rows.topPrivateRow, Rows.laid_tillerman_say_words, List.range, List.range.loop, wordL])) (leads_of h (by simp [Rows.topPrivateRow, Rows.laid_tillerman_say_leads, List.range, List.range.loop, leadL]))
theorem top_private_pool {mode : Int} {n : Nat} (hn : n ≤ 8) {l : List Act} (hl : actsE l = 0) (hs : ∀ a ∈ l, a.kind = 1 ∧ No88 a.data) : ∃ V, Rep houseStart (ranM mode n l).deeds V ∧ V.rows = (ranM mode n l).e.w.rows := by
 have ha := pool_house hn mode hl
 have hr := top_private (mode := mode) (n := n) hl hs
 exact ⟨_, by unfold ranM; rw [ha.deeds]; exact hr, ha.rows.symm⟩
def PrvRel (w : World) (B bO bW : Nat) (v1 v2 v3 : Value) (V : Wd) (snt : List ByteArray) (ds : List Deed) (rows : PL) (k : Nat) (wr : World) : Prop :=
 ∃ D d A c, ∃ W : Wd, PrvAt w wr B bO bW v1 v2 v3 (.slice D W.rows.length d) (.slice A W.ss.length c) W snt ds rows ∧ Rep W (ds.drop k) V ∧ WorldOk W ∧ W.ss.length = 6
set_option maxHeartbeats 4000000 in
theorem walk_TopPrivate (v : Value) (l : List Raw) (mode srv : Int) (w : World) (hl : RLst w w.heap.size v l) (hm : (Lit.int .i64 mode).wf = true) (hs : (Lit.int .i64 srv).wf = true) (hT : Tabs w w.heap.size) :
  Calls Tryz.prog 6 #[v, .int .i64 mode, .int .i64 srv] w fun e w' => e = .returned (.bool true) ∧ Below w.heap.size w w' := by
 have hmb := i64_bd hm
 have hsb := i64_bd hs
 have hu := setupR_E mode srv
 have hE := run_E hu (Nat.le_trans (stayR_len (l := l) (most := 60) (n := 5)) (by omega)) (stayR_E (l := l) (most := 60) (n := 5) (by omega) (by omega))
 have hq := pickI_bd srv (m := 4) (by omega)
 have hpp := top_private_pool (mode := 1 + pickI mode 3) (n := (1 + pickI srv 4).toNat) (by omega) (stayR_E (l := l) (most := 60) (n := 5) (by omega) (by omega)) stayR_no
 have HS := hD (setup_any mode srv w hmb.1 hmb.2 hsb.1 hsb.2)
 have HT := hD hT
 have HA := hD (fun (wc : World) (h : Below w.heap.size w wc) => staying_any v l 60 5 wc (hl.step h) (hT.below h).wo (by omega) (by omega) (by omega))
 have HP := hD (fun (out : Value) (wc : World) (h : ALst wc wc.heap.size out (stayR l 60 5)) (hb : Below w.heap.size w wc) => playedT_any (1 + pickI mode 3) (1 + pickI srv 4) out _ wc h ((hT.below hb).up hb.size) hE)
 obtain ⟨E, e, rfl, he⟩ := hl.form
 generalize ranM (1 + pickI mode 3) (1 + pickI srv 4).toNat (stayR l 60 5) = m at *
 obtain ⟨V, hrep, hrows⟩ := hpp
 have HV := hD (And.intro hrep hrows)
 generalize stayR l 60 5 = al at *
 generalize 1 + pickI mode 3 = md at *
 generalize 1 + pickI srv 4 = sv at *
 have hmk : ∀ wc : World, (Instr.makeSlice 37 (.int .i64 6) (.int .i64 6)).run Tryz.prog wc = .ok (.slice (some ⟨wc.heap.size, 0, none⟩) 6 6) (wc.alloc (.cells (madeCells (Value.agg #[.int .i64 0, .slice none 0 0, .slice none 0 0, .slice none 0 0, .slice none 0 0]).cells (6 * 5)) 115)) := fun wc => make_sess 6 (by omega) wc
 clear hmb hsb hu hE hq hrep hrows hl hm hs hT
 go_enter Tryz.func6, Tryz.ntmps6
 go_wp2_with fail
 refine HS.out.mono ?_
 rintro e1 w1 ⟨rfl, hb1⟩
 go_wp2_with fail
 refine (HA.out _ hb1).mono ?_
 rintro e2 w2 ⟨out, rfl, ha, hb2⟩
 have HB2 := hD (bel_trans hb1 hb2)
 obtain ⟨A0, c0, rfl, _⟩ := ha.form
 go_wp2_with fail
 refine (HP.out _ _ ha HB2.out).mono ?_
 rintro e3 w3 ⟨v1, v2, v3, rfl, ho, hb3⟩
 obtain ⟨A1, c1, rfl, _⟩ := ho.s.form
 obtain ⟨A2, c2, rfl, _⟩ := ho.d.form
 obtain ⟨A3, c3, rfl, _⟩ := ho.r.form
 have hsm := ho.d.small
 have HO := hD ho
 have HB3 := hD (bel_trans HB2.out hb3)
 clear ho hb3 ha hb1 hb2 HS HA HP
 go_wp2_with fail
 go_loopw [31] (fun j wr => ∃ k : Nat, k ≤ m.deeds.length ∧ j = .int .i64 k ∧ Hid (PrvRel w w3.heap.size w3.heap.size (w3.heap.size + 1 + 1) (.slice A1 m.sent.length c1) (.slice A2 m.deeds.length c2) (.slice A3 m.e.w.rows.length c3) V m.sent m.deeds m.e.w.rows k wr)) (fun j _ => m.deeds.length - (intOf j).toNat)
 case atStart =>
  have b1 := (Below.refl w3.heap.size w3).alloc (nL _) (.cells #[.slice A1 m.sent.length c1, .slice A2 m.deeds.length c2, .slice A3 m.e.w.rows.length c3] 29)
  have b2 := b1.alloc (by simp) (.cells (madeCells #[.int .i64 0, .slice none 0 0, .slice none 0 0, .slice none 0 0, .slice none 0 0] 30) 115)
  have b3 := b2.alloc (by simp; omega) (.cells #[.slice none 0 0, .slice (some ⟨w3.heap.size + 1, 0, none⟩) 6 6] 39)
  have x1 := ((RowTo.whole w3 #[.slice A1 m.sent.length c1, .slice A2 m.deeds.length c2, .slice A3 m.e.w.rows.length c3] 29).alloc (.cells (madeCells #[.int .i64 0, .slice none 0 0, .slice none 0 0, .slice none 0 0, .slice none 0 0] 30) 115)).alloc (.cells #[.slice none 0 0, .slice (some ⟨w3.heap.size + 1, 0, none⟩) 6 6] 39)
  have x2 := (RowTo.whole (w3.alloc (.cells #[.slice A1 m.sent.length c1, .slice A2 m.deeds.length c2, .slice A3 m.e.w.rows.length c3] 29)) (madeCells #[.int .i64 0, .slice none 0 0, .slice none 0 0, .slice none 0 0, .slice none 0 0] (6 * 5)) 115).alloc (.cells #[.slice none 0 0, .slice (some ⟨w3.heap.size + 1, 0, none⟩) 6 6] 39)
  have x3 := RowTo.whole ((w3.alloc (.cells #[.slice A1 m.sent.length c1, .slice A2 m.deeds.length c2, .slice A3 m.e.w.rows.length c3] 29)).alloc (.cells (madeCells #[.int .i64 0, .slice none 0 0, .slice none 0 0, .slice none 0 0, .slice none 0 0] 30) 115)) #[.slice none 0 0, .slice (some ⟨w3.heap.size + 1, 0, none⟩) 6 6] 39
  rw [madeCells_size] at x2
  simp only [World.size_alloc] at x2 x3
  have hs := made_sess x2 (by omega)
  have hB3 := HB3.out.size
  exact ⟨0, by omega, rfl, none, 0, some ⟨w3.heap.size + 1, 0, none⟩, 6, houseStart, ⟨x1, x3, HO.out.d.keep (nL _) (fun q hq => b3.cell hq), HO.out.r.below b3, ⟨Lst.none_ _ _, hs⟩, by omega, by omega, by omega, bel_add' HB3.out b3 hB3⟩, HV.out.1, zeros_ok (by omega), rfl⟩
 case round =>
  obtain ⟨k, hk, rfl, HR⟩ := hrel
  obtain ⟨D, d, A, c, W, hP, hRep, hok, hss⟩ := HR.out
  have HSS := hD hss
  clear hss
  clear HO HB3 HR
  obtain ⟨a0, a1⟩ := cells2 hP.x
  obtain ⟨o0, o1, o2⟩ := cells3 hP.o
  have hal := hP.x.lt
  have hol := hP.o.lt
  by_cases hlt : k < m.deeds.length
  ·have HLT := hD hlt
   have hds : m.deeds.drop k = m.deeds[k] :: m.deeds.drop (k + 1) := List.drop_eq_getElem_cons hlt
   rw [hds] at hRep
   obtain ⟨b, off, rfl, hb, l0, l1, l2, l3, l4, l5, l6⟩ := hP.d.pt hlt
   generalize m.deeds[k] = x at *
   clear hds
   obtain ⟨r1, r2, r3, r4, r5⟩ := hRep
   have hcl : x.c < W.ss.length := by have := HSS.out; omega
   have HW2 := hD (doR_ok hok hcl r4)
   have hdo := fun (r s : Value) (wc : World) (h1 : Wld wc wc.heap.size r s W) (h2 : Words wc) => do_any r s W x.c x.r.k x.r.key x.r.val wc h1 h2 hok hcl r4
   have hq : doM W x.c x.r.k x.r.key x.r.val = doR W x.c x.r := rfl
   rw [hq, r1, r2] at hdo
   generalize (doR W x.c x.r).1 = W2 at *
   have HDO := hD hdo
   have HR5 := hD (And.intro r5 (show W2.ss.length = 6 by have := HW2.out.2; have := HSS.out; omega))
   have nd := (Below.refl wr.heap.size wr).alloc (nL _) (.cells #[.int .i64 x.c, .int .i64 x.r.k, .string x.r.key, .string x.r.val, .int .i64 x.a.kind, .string x.a.text, .int .i64 x.st] 70)
   have HP1 := hD (hP.below nd)
   have xd := RowTo.whole wr #[.int .i64 x.c, .int .i64 x.r.k, .string x.r.key, .string x.r.val, .int .i64 x.a.kind, .string x.a.text, .int .i64 x.st] 70
   have HXD := hD xd
   have hcI : ∀ j u, [.int .i64 x.c, .int .i64 x.r.k, .string x.r.key, .string x.r.val, .int .i64 x.a.kind, .string x.a.text, .int .i64 x.st][j]? = some u → (wr.alloc (.cells #[.int .i64 x.c, .int .i64 x.r.k, .string x.r.key, .string x.r.val, .int .i64 x.a.kind, .string x.a.text, .int .i64 x.st] 70)).cell? ⟨wr.heap.size, j, none⟩ = some u := fun j u hu => by
    obtain ⟨hj, hu⟩ := List.getElem?_eq_some_iff.1 hu
    rw [← hu]; exact xd.cell hj
   have HTW := hD (fun (wc : World) (h : Below w.heap.size w wc) => (HT.out.below h).wo)
   clear hP hok hdo r1 r2 r3 r4 r5 nd xd HV hcI
   go_wp2_with fail
   refine (HDO.out _ _ _ HP1.out.wld (HTW.out _ HP1.out.bel)).mono ?_
   rintro e4 w4 ⟨r2, s2, rfl, hw4, hb4⟩
   obtain ⟨D2, d2, rfl, _⟩ := hw4.rows.form
   obtain ⟨E2, e2', rfl, _⟩ := hw4.sess.form
   have nn := ((Below.refl w4.heap.size w4).alloc (nL _) (.cells #[.slice D2 W2.rows.length d2, .slice E2 W2.ss.length e2'] 39)).alloc (by simp) (.cells #[.int .i64 x.a.kind, .string x.a.text, .int .i64 x.st] 46)
   have hP4 := (HP1.out.below hb4).below nn
   have hX4 := (HXD.out.below hb4 HXD.out.lt).below nn (HXD.out.below hb4 HXD.out.lt).lt
   have z4 := hX4.cell (j := 4) (by simp)
   have z5 := hX4.cell (j := 5) (by simp)
   have z6 := hX4.cell (j := 6) (by simp)
   simp only [gCZ, gCS] at z4 z5 z6
   have hXl := hX4.lt
   have g0 := hP4.x.frozen 0
   have g1 := hP4.x.frozen 1
   obtain ⟨q0, q1⟩ := cells2 hP4.x
   obtain ⟨o0, o1, o2⟩ := cells3 hP4.o
   have hql := hP4.x.lt
   have HF := hD (hP4.next (hw4.step nn))
   clear hP4 hX4 nn hw4 hb4 HP1 HXD HDO
   unfold doGood
   go_wp2
   go_roundw
   case rel => exact ⟨k + 1, Nat.succ_le_of_lt HLT.out, by go_num, _, _, _, _, W2, HF.out, HR5.out.1, HW2.out.1, HR5.out.2⟩
   case measure => have := HLT.out; simp [intOf]; omega
  ·obtain rfl : k = m.deeds.length := by omega
   rw [List.drop_length] at hRep
   have hVW : V = W := hRep
   have hpr := hP.wld.rows
   rw [← hVW, HV.out.2] at hpr
   have HE := hD (equalP_same _ _ m.e.w.rows wr wr.heap.size hpr (hP.rw.more (Nat.le_of_lt (Nat.lt_of_le_of_lt hP.bb hP.x.lt))))
   have HB := hD hP.bel
   rw [show W.rows.length = m.e.w.rows.length by rw [← hVW, HV.out.2]] at a0
   clear hpr hP hRep hVW hok
   go_wp2_with fail
   refine HE.out.mono ?_
   rintro e4 w4 ⟨rfl, n4, rfl⟩
   go_wp2
   go_ret
   exact ⟨rfl, below_drewN HB.out _⟩
end Go.Proofs.YtpbaobmegomfpabGreatDoor
