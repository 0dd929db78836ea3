/-
  Texts of the proof, one behind the other: PSta, PSetup, ActL, PChk.
-/
import Derived.Test.YtpbaobmegomfpabGreatDoorM36
import Derived.Test.YtpbaobmegomfpabGreatDoorM27
import Derived.Test.YtpbaobmegomfpabGreatDoorM20
import Derived.Test.YtpbaobmegomfpabGreatDoorRows
import Derived.Below
import Derived.WalkKit
import Derived.WalkSpells
import Derived.WalkLawsBesides
import Derived.Lib.Hide
import Derived.Test.YtpbaobmegomfpabGreatDoorM2
import Derived.Deep.QuietTactic
import Derived.BigQuiet
import Derived.IntWalk
set_option linter.unusedVariables false
set_option linter.unusedSimpArgs false
set_option maxRecDepth 100000
open List renaming getElem_toArray → gTA, getElem_cons_zero → gCZ, getElem_cons_succ → gCS, setIfInBounds_toArray → sTA, set_cons_zero → sCZ, set_cons_succ → sCS
open Go.Lib renaming hid → jD
open Nat renaming le_refl → nL
namespace Go.Proofs.YtpbaobmegomfpabGreatDoor
open Go.RowKit
def poolV (mode : Int) (sS sB : Value) : List Value := [.int .i64 mode, .slice none 0 0, sS, sB, .string ⟨#[]⟩, .slice none 0 0, .bool false, .int .i64 0, .slice none 0 0, .slice none 0 0, .string ⟨#[]⟩, .slice none 0 0, .bool false, .int .i64 0, .slice none 0 0, .slice none 0 0, .string ⟨#[]⟩, .slice none 0 0, .bool false, .int .i64 0, .slice none 0 0, .slice none 0 0, .string ⟨#[]⟩, .slice none 0 0, .bool false, .int .i64 0, .slice none 0 0, .slice none 0 0, .string ⟨#[]⟩, .slice none 0 0, .bool false, .int .i64 0, .slice none 0 0, .slice none 0 0, .string ⟨#[]⟩, .slice none 0 0, .bool false, .int .i64 0, .slice none 0 0, .slice none 0 0, .slice none 0 0, .slice none 0 0, .slice none 0 0, .slice none 0 0, .slice none 0 0, .slice none 0 0, .slice none 0 0, .slice none 0 0]
def poolF (mode : Int) (sS sB : Value) : Nat → Value := fun j => (poolV mode sS sB).getD j (.int .i64 0)
def newSl (b n : Nat) : Value := .slice (some ⟨b, 0, none⟩) n n
def startG (P bB : Nat) : Nat → Option Nat := fun i => if i = 0 then some P else if i = 1 then some bB else none
theorem startG_out {P bB i b : Nat} (h : startG P bB i = some b) : (i = 0 ∧ b = P) ∨ (i = 1 ∧ b = bB) := by
 unfold startG at h
 split at h
 ·rename_i e; injection h with h; exact .inl ⟨e, h.symm⟩
 ·split at h
  ·rename_i e; injection h with h; exact .inr ⟨e, h.symm⟩
  ·cases h
theorem start_get (n c : Nat) : (Mach.start (poolStart n) n).get c = Cl.new := by
 unfold Mach.get Mach.start
 simp only
 rw [List.getD_eq_getElem?_getD, List.getElem?_replicate]
 split <;> rfl
theorem start_of (n c : Nat) : (Mach.start (poolStart n) n).e.of c = ([], []) := by
 show (List.replicate 6 (([], []) : PL × PL)).getD c ([], []) = _
 rw [List.getD_eq_getElem?_getD, List.getElem?_replicate]
 split <;> rfl
theorem start_sent (n c : Nat) : (Mach.start (poolStart n) n).sent.getD c ⟨#[]⟩ = ⟨#[]⟩ := by
 show (List.replicate 6 (⟨#[]⟩ : ByteArray)).getD c ⟨#[]⟩ = _
 rw [List.getD_eq_getElem?_getD, List.getElem?_replicate]
 split <;> rfl
theorem start_items (n : Nat) {k : Nat} (h2 : 2 ≤ k) (h15 : k ≤ 15) : items (Mach.start (poolStart n) n) k = [] := by
 unfold items
 rw [if_neg (by omega)]
 by_cases h8 : k < 8
 ·rw [if_pos h8, start_get]; rfl
 ·rw [if_neg h8]
  by_cases h : k = 8
  ·rw [if_pos h]; rfl
  ·rw [if_neg h]
   by_cases h9 : k < 15
   ·rw [if_pos h9, start_sent]; rfl
   ·rw [if_neg h9]; rfl
theorem poolF_nil (mode : Int) (sS sB : Value) : ∀ k, 2 ≤ k → k ≤ 15 → poolF mode sS sB (slC k) = .slice none 0 0 := by
 intro k h2 h15
 obtain rfl | rfl | rfl | rfl | rfl | rfl | rfl | rfl | rfl | rfl | rfl | rfl | rfl | rfl : k = 2 ∨ k = 3 ∨ k = 4 ∨ k = 5 ∨ k = 6 ∨ k = 7 ∨ k = 8 ∨ k = 9 ∨ k = 10 ∨ k = 11 ∨ k = 12 ∨ k = 13 ∨ k = 14 ∨ k = 15 := by omega
 all_goals rfl
theorem c6 {c : Nat} (h : c < 6) : c = 0 ∨ c = 1 ∨ c = 2 ∨ c = 3 ∨ c = 4 ∨ c = 5 := by omega
theorem poolF_cl (mode : Int) (sS sB : Value) {c : Nat} (hc : c < 6) : poolF mode sS sB (4 + c * 6) = .string ⟨#[]⟩ ∧ poolF mode sS sB (4 + c * 6 + 2) = .bool false ∧ poolF mode sS sB (4 + c * 6 + 3) = .int .i64 0 ∧ poolF mode sS sB (4 + c * 6 + 4) = .slice none 0 0 ∧ poolF mode sS sB (4 + c * 6 + 5) = .slice none 0 0 := by
 obtain rfl | rfl | rfl | rfl | rfl | rfl := c6 hc
 all_goals exact ⟨rfl, rfl, rfl, rfl, rfl⟩
theorem made_bools {w : World} {b n : Nat} (h : RowTo w b 4 n (madeCells #[.bool false] n).toList) : ∀ j, j < n → w.cell? ⟨b, j, none⟩ = some (.bool false) := fun j hj => by
 have hl : j < (madeCells #[Value.bool false] n).toList.length := by simpa [madeCells] using hj
 rw [h.cell hl]
 simp [madeCells, Nat.mod_one]
theorem PMem.start {w : World} {base P bS bB n : Nat} (hn : n ≤ 8) (mode : Int) (hS : RowTo w bS 115 (n * 5) (madeCells #[.int .i64 0, .slice none 0 0, .slice none 0 0, .slice none 0 0, .slice none 0 0] (n * 5)).toList) (hB : RowTo w bB 4 n (madeCells #[.bool false] n).toList)
  (hP : PRow w P (poolF mode (newSl bS n) (newSl bB n))) (h1 : bS ≠ bB) (h2 : bS ≠ P) (h3 : bB ≠ P) (hb1 : base ≤ bB) (hb2 : base ≤ P) : PMem 0 w base P (poolF mode (newSl bS n) (newSl bB n)) (startG P bB) mode (Mach.start (poolStart n) n) := by
 have hs := made_sess hS hn
 refine ⟨hP, rfl, fun i b hi => ?_, fun i j b hi hj => ?_, fun k k1 k15 _ => ?_, rfl, ?_, fun c hc => ?_, fun c hc => ?_, fun c hc => ?_, fun c hc => ?_, fun c hc => ?_⟩
 ·rcases startG_out hi with ⟨_, rfl⟩ | ⟨_, rfl⟩
  ·exact ⟨hb2, hP.lt⟩
  ·exact ⟨hb1, hB.lt⟩
 ·rcases startG_out hi with ⟨e1, e2⟩ | ⟨e1, e2⟩ <;> rcases startG_out hj with ⟨e3, e4⟩ | ⟨e3, e4⟩ <;> omega
 ·by_cases e : k = 1
  ·subst e
   have hi : items (Mach.start (poolStart n) n) 1 = (List.replicate n false).map (fun b => [.bool b]) := rfl
   rw [hi, flat_bools, List.length_map, List.length_replicate]
   refine ⟨by simp [slZ], .inr ⟨bB, 0, n, n, rfl, rfl, nL _, hB.nil, .inr (by simp [slZ]), fun j hj => ?_⟩⟩
   have hj' : j < n := by simpa using hj
   rw [Nat.zero_add, made_bools hB j hj']
   simp
  ·rw [start_items n (by omega) k15, poolF_nil mode _ _ k (by omega) k15]
   have : startG P bB k = none := by unfold startG; rw [if_neg (by omega), if_neg e]
   rw [this]
   exact Sl.nil_ _ _ _
 ·refine WldP.mk' (Lst.none_ _ _) (InP.nil_ _ _) hs.form hs.bytes (fun hp => ?_)
  obtain ⟨b', off', c', e', hb', hc'⟩ := hs.cells hp
  refine ⟨b', off', c', e', ?_, hb', fun i hi => ?_⟩
  ·injection e' with e'
   injection e' with e'
   injection e' with e1' e2'
   subst e1' e2'
   intro i hi
   rcases startG_out hi with ⟨_, e⟩ | ⟨_, e⟩
   ·exact h2 e
   ·exact h1 e
  ·obtain ⟨v1, v2, v3, v4, q⟩ := hc' i hi
   have hi' : i < (List.replicate n Sess.zero).length := hi
   have z : (List.replicate n Sess.zero)[i]'hi' = Sess.zero := List.getElem_replicate _
   refine ⟨v1, v2, v3, v4, q, ?_, ?_, ?_, ?_⟩
   ·show InP _ v1 ((List.replicate n Sess.zero)[i]'hi').set
    rw [z]; exact InP.nil_ _ _
   ·show InP _ v2 ((List.replicate n Sess.zero)[i]'hi').prep
    rw [z]; exact InP.nil_ _ _
   ·show InP _ v3 ((List.replicate n Sess.zero)[i]'hi').sav
    rw [z]; exact InP.nil_ _ _
   ·show InP _ v4 ((List.replicate n Sess.zero)[i]'hi').wr
    rw [z]; exact InP.nil_ _ _
 ·rw [start_get]; exact (poolF_cl mode _ _ hc).1
 ·rw [start_get]; exact (poolF_cl mode _ _ hc).2.1
 ·rw [start_get]; exact ⟨0, (poolF_cl mode _ _ hc).2.2.1, fun s hs => by cases hs⟩
 ·rw [start_of, (poolF_cl mode _ _ hc).2.2.2.1]; exact ⟨Lst.none_ _ _, InP.nil_ _ _⟩
 ·rw [start_of, (poolF_cl mode _ _ hc).2.2.2.2]; exact ⟨Lst.none_ _ _, InP.nil_ _ _⟩
theorem Tabs.up {w : World} {B B' : Nat} (h : Tabs w B) (hB : B ≤ B') : Tabs w B' := ⟨h.wo, h.le, Nat.lt_of_lt_of_le h.l1 hB, Nat.lt_of_lt_of_le h.l2 hB⟩
theorem OutV.off3 {w : World} {R : Nat} {v1 v2 v3 : Value} {sent : List ByteArray} {deeds : List Deed} {rows : PL} (h : OutV w v1 v2 v3 sent deeds rows) (hR : RowTo w R 29 3 [.slice none 0 0, .slice none 0 0, .slice none 0 0]) (a b c : Value) :
  OutV (((w.setCell ⟨R, 0, none⟩ a).setCell ⟨R, 1, none⟩ b).setCell ⟨R, 2, none⟩ c) v1 v2 v3 sent deeds rows := by
 have hk : ∀ p : Addr, p.block ≠ R → (((w.setCell ⟨R, 0, none⟩ a).setCell ⟨R, 1, none⟩ b).setCell ⟨R, 2, none⟩ c).cell? p = w.cell? p := fun p hp => by
  rw [World.cell?_of_block (set_off _ R 2 c _ hp), World.cell?_of_block (set_off _ R 1 b _ hp), World.cell?_of_block (set_off _ R 0 a _ hp)]
 have hs : (((w.setCell ⟨R, 0, none⟩ a).setCell ⟨R, 1, none⟩ b).setCell ⟨R, 2, none⟩ c).heap.size = w.heap.size := by rw [size_set, size_set, size_set]
 have hno : ∀ j u, w.cell? ⟨R, j, none⟩ = some u → ∃ n c, u = .slice none n c := fun j u hu => by
  obtain ⟨cur, hh, hz, ht⟩ := hR
  have e : w.cell? ⟨R, j, none⟩ = cur[j]? := by unfold World.cell?; simp only [hh]; rfl
  rw [e] at hu
  have hj : j < cur.size := (Array.getElem?_eq_some_iff.1 hu).1
  have ht' : cur.toList = [.slice none 0 0, .slice none 0 0, .slice none 0 0] := by rw [← ht]; exact (List.take_of_length_le (by simp [hz])).symm
  rw [← Array.getElem?_toList, ht'] at hu
  match j, hu with
  | 0, hu => injection hu with hu; exact ⟨0, 0, hu.symm⟩
  | 1, hu => injection hu with hu; exact ⟨0, 0, hu.symm⟩
  | 2, hu => injection hu with hu; exact ⟨0, 0, hu.symm⟩
  | n + 3, hu => simp at hu
 refine ⟨⟨h.s.form, h.s.small, h.s.sizes, fun hn => ?_⟩, ⟨h.d.form, h.d.small, fun hn => ?_⟩, ⟨h.r.form, h.r.bytes, h.r.sizes, fun hn => ?_, h.r.nil⟩⟩
 ·obtain ⟨b', off, c', e, hb, hc⟩ := h.s.cells hn
  have hne : b' ≠ R := fun e' => by
   subst e'
   obtain ⟨_, _, hu⟩ := hno _ _ (hc 0 hn)
   cases hu
  exact ⟨b', off, c', e, by rw [hs]; exact hb, fun i hi => (hk _ hne).trans (hc i hi)⟩
 ·obtain ⟨b', off, c', e, hb, hc⟩ := h.d.cells hn
  have hne : b' ≠ R := fun e' => by
   subst e'
   obtain ⟨_, _, hu⟩ := hno _ _ (hc 0 hn 0 _ rfl)
   cases hu
  exact ⟨b', off, c', e, by rw [hs]; exact hb, fun i hi j u hu => (hk _ hne).trans (hc i hi j u hu)⟩
 ·obtain ⟨b', off, c', e, hb, hc⟩ := h.r.cells hn
  have hne : b' ≠ R := fun e' => by
   subst e'
   obtain ⟨_, _, hu⟩ := hno _ _ (hc 0 hn).1
   cases hu
  exact ⟨b', off, c', e, by rw [hs]; exact hb, fun i hi => ⟨(hk _ hne).trans (hc i hi).1, (hk _ hne).trans (hc i hi).2⟩⟩
theorem built_pool (mode : Int) (sS sB : Value) (hS : sS.oneCell' = true) (hB : sB.oneCell' = true) : Tryz.prog.built 83 [(0, .int .i64 mode), (1, .agg #[.slice none 0 0, sS]), (2, sB)] = some (poolV mode sS sB).toArray := by
 cases sS <;> first | (cases hS; done) | (cases sB <;> first | (cases hB; done) | kernel_rfl)
set_option maxHeartbeats 1000000 in
theorem checkSetup_any (m s : Int) (w : World) : Calls Tryz.prog 47 #[.agg #[.int .i64 m, .int .i64 s]] w fun e w' => e = .returned (.int .i64 (setupE m s)) ∧ Below w.heap.size w w' := by
 by_cases h1 : m < 1
 ·have t1 : decide (m < 1) = true := decide_eq_true h1
  have HE := jD (show setupE m s = 3 by unfold setupE; rw [if_pos (.inl h1)])
  go_enter Tryz.func47, Tryz.ntmps47
  go_wp2
  go_ret
  refine ⟨by rw [HE.out]; rfl, ?_⟩
  repeat' (first | exact Below.refl _ _ | assumption | with_reducible refine below_drewN ?_ _ | with_reducible refine Below.drew ?_ | with_reducible refine Below.setCell ?_ ?_ _ | with_reducible refine Below.alloc ?_ ?_ _ | (simp; done) | (simp; omega))
 have t1 : decide (m < 1) = false := decide_eq_false h1
 by_cases h2 : 3 < m
 ·have t2 : decide (3 < m) = true := decide_eq_true h2
  have HE := jD (show setupE m s = 3 by unfold setupE; rw [if_pos (.inr h2)])
  go_enter Tryz.func47, Tryz.ntmps47
  go_wp2
  go_ret
  refine ⟨by rw [HE.out]; rfl, ?_⟩
  repeat' (first | exact Below.refl _ _ | assumption | with_reducible refine below_drewN ?_ _ | with_reducible refine Below.drew ?_ | with_reducible refine Below.setCell ?_ ?_ _ | with_reducible refine Below.alloc ?_ ?_ _ | (simp; done) | (simp; omega))
 have t2 : decide (3 < m) = false := decide_eq_false h2
 by_cases h3 : s < 1
 ·have t3 : decide (s < 1) = true := decide_eq_true h3
  have HE := jD (show setupE m s = 2 by unfold setupE; rw [if_neg (by omega), if_pos (.inl h3)])
  go_enter Tryz.func47, Tryz.ntmps47
  go_wp2
  go_ret
  refine ⟨by rw [HE.out]; rfl, ?_⟩
  repeat' (first | exact Below.refl _ _ | assumption | with_reducible refine below_drewN ?_ _ | with_reducible refine Below.drew ?_ | with_reducible refine Below.setCell ?_ ?_ _ | with_reducible refine Below.alloc ?_ ?_ _ | (simp; done) | (simp; omega))
 have t3 : decide (s < 1) = false := decide_eq_false h3
 by_cases h4 : 4 < s
 ·have t4 : decide (4 < s) = true := decide_eq_true h4
  have HE := jD (show setupE m s = 2 by unfold setupE; rw [if_neg (by omega), if_pos (.inr h4)])
  go_enter Tryz.func47, Tryz.ntmps47
  go_wp2
  go_ret
  refine ⟨by rw [HE.out]; rfl, ?_⟩
  repeat' (first | exact Below.refl _ _ | assumption | with_reducible refine below_drewN ?_ _ | with_reducible refine Below.drew ?_ | with_reducible refine Below.setCell ?_ ?_ _ | with_reducible refine Below.alloc ?_ ?_ _ | (simp; done) | (simp; omega))
 have t4 : decide (4 < s) = false := decide_eq_false h4
 have HE := jD (show setupE m s = 0 by unfold setupE; rw [if_neg (by omega), if_neg (by omega)])
 go_enter Tryz.func47, Tryz.ntmps47
 go_wp2
 go_ret
 refine ⟨by rw [HE.out]; rfl, ?_⟩
 repeat' (first | exact Below.refl _ _ | assumption | with_reducible refine below_drewN ?_ _ | with_reducible refine Below.drew ?_ | with_reducible refine Below.setCell ?_ ?_ _ | with_reducible refine Below.alloc ?_ ?_ _ | (simp; done) | (simp; omega))
structure ALst (w : World) (B : Nat) (v : Value) (l : List Act) : Prop where
 form : ∃ A c, v = .slice A l.length c ∧ l.length ≤ c
 bytes : l.length * 32 ≤ 140737488351232
 sizes : ∀ a ∈ l, a.data.size ≤ 140737488351232
 cells : 0 < l.length → ∃ b off c, v = .slice (some ⟨b, off, none⟩) l.length c ∧ b < B ∧
  ∀ i (h : i < l.length), w.cell? ⟨b, off + i * 3, none⟩ = some (.int .i64 l[i].kind) ∧ w.cell? ⟨b, off + i * 3 + 1, none⟩ = some (.int .i64 l[i].c) ∧ w.cell? ⟨b, off + i * 3 + 2, none⟩ = some (.string l[i].data)
theorem ALst.keep {w w' : World} {B B' : Nat} {v : Value} {l : List Act} (h : ALst w B v l) (hB : B ≤ B') (hk : ∀ p : Addr, p.block < B → w'.cell? p = w.cell? p) : ALst w' B' v l := by
 refine ⟨h.form, h.bytes, h.sizes, fun hn => ?_⟩
 obtain ⟨b, off, c, e, hb, hc⟩ := h.cells hn
 exact ⟨b, off, c, e, by omega, fun i hi => ⟨(hk _ hb).trans (hc i hi).1, (hk _ hb).trans (hc i hi).2.1, (hk _ hb).trans (hc i hi).2.2⟩⟩
theorem ALst.below {w w' : World} {B : Nat} {v : Value} {l : List Act} (h : ALst w B v l) (hb : Below B w w') : ALst w' B v l := h.keep (nL _) fun _ hp => hb.cell hp
theorem ALst.step {w w' : World} {v : Value} {l : List Act} (h : ALst w w.heap.size v l) (hb : Below w.heap.size w w') : ALst w' w'.heap.size v l := h.keep hb.size fun _ hp => hb.cell hp
theorem ALst.pt {w : World} {B n c : Nat} {A : Option Addr} {l : List Act} (h : ALst w B (.slice A n c) l) {k : Nat} (hk : k < l.length) :
  ∃ b off, A = some ⟨b, off, none⟩ ∧ b < B ∧ w.cell? ⟨b, off + k * 3, none⟩ = some (.int .i64 l[k].kind) ∧ w.cell? ⟨b, off + k * 3 + 1, none⟩ = some (.int .i64 l[k].c) ∧ w.cell? ⟨b, off + k * 3 + 2, none⟩ = some (.string l[k].data) := by
 obtain ⟨b, off, c', e, hb, hc⟩ := h.cells (by omega)
 injection e with e1 e2 e3
 obtain ⟨h1, h2, h3⟩ := hc k hk
 exact ⟨b, off, e1, hb, h1, h2, h3⟩
theorem actsE_take {l : List Act} {k : Nat} (hk : k < l.length) (h : actsE (l.take k) = 0) : actsE (l.take (k + 1)) = actE l[k] := by
 induction l generalizing k with
 | nil => simp at hk
 | cons a l ih =>
  cases k with
  | zero => simp [actsE]; intro h; exact h.symm
  | succ k =>
   rw [List.take_succ_cons] at h ⊢
   unfold actsE at h ⊢
   by_cases e : actE a ≠ 0
   ·rw [if_pos e] at h; exact absurd h e
   ·rw [if_neg e] at h ⊢
    exact ih (by simpa using hk) h
theorem actsE_of {l : List Act} {k : Nat} (hk : k < l.length) (h : actsE (l.take k) = 0) (he : actE l[k] ≠ 0) : actsE l = actE l[k] := by
 induction l generalizing k with
 | nil => simp at hk
 | cons a l ih =>
  cases k with
  | zero => unfold actsE; rw [if_pos (by simpa using he)]; rfl
  | succ k =>
   rw [List.take_succ_cons] at h
   unfold actsE at h ⊢
   by_cases e : actE a ≠ 0
   ·rw [if_pos e] at h; exact absurd h e
   ·rw [if_neg e] at h ⊢
    exact ih (by simpa using hk) h (by simpa using he)
set_option maxHeartbeats 1000000 in
theorem checkAct_any (k c : Int) (d : ByteArray) (w : World) : Calls Tryz.prog 48 #[.agg #[.int .i64 k, .int .i64 c, .string d]] w fun e w' => e = .returned (.int .i64 (actE ⟨k, c, d⟩)) ∧ Below w.heap.size w w' := by
 have nn := (Below.refl w.heap.size w).alloc (nL _) (.cells #[.int .i64 k, .int .i64 c, .string d] 54)
 by_cases h1 : k = 1 ∨ k = 2
 case neg =>
  have t1 : (k != 1) = true := bne_iff_ne.2 (fun h => h1 (.inl h))
  have t2 : (k != 2) = true := bne_iff_ne.2 (fun h => h1 (.inr h))
  have HE := jD (show actE ⟨k, c, d⟩ = 3 by unfold actE; rw [if_pos h1])
  have HN := jD nn
  clear h1 nn
  go_enter Tryz.func48, Tryz.ntmps48
  go_wp2
  go_ret
  exact ⟨by rw [HE.out]; rfl, HN.out⟩
 by_cases h2 : c < 0
 ·have t3 : decide (c < 0) = true := decide_eq_true h2
  have HE := jD (show actE ⟨k, c, d⟩ = 2 by unfold actE; rw [if_neg (fun h => h h1), if_pos (.inl h2)])
  have HN := jD nn
  clear h2 nn
  rcases h1 with rfl | rfl
  all_goals
   go_enter Tryz.func48, Tryz.ntmps48
   go_wp2
   go_ret
   exact ⟨by rw [HE.out]; rfl, HN.out⟩
 have t3 : decide (c < 0) = false := decide_eq_false h2
 by_cases h3 : 6 ≤ c
 ·have t4 : decide (6 ≤ c) = true := decide_eq_true h3
  have HE := jD (show actE ⟨k, c, d⟩ = 2 by unfold actE; rw [if_neg (fun h => h h1), if_pos (.inr h3)])
  have HN := jD nn
  clear h2 h3 nn
  rcases h1 with rfl | rfl
  all_goals
   go_enter Tryz.func48, Tryz.ntmps48
   go_wp2
   go_ret
   exact ⟨by rw [HE.out]; rfl, HN.out⟩
 have t4 : decide (6 ≤ c) = false := decide_eq_false h3
 by_cases h4 : 1000 < d.size
 ·have t5 : decide (1000 < (d.size : Int)) = true := decide_eq_true (by omega)
  have HE := jD (show actE ⟨k, c, d⟩ = 1 by unfold actE; rw [if_neg (fun h => h h1), if_neg (by simp only; omega), if_pos h4])
  have HN := jD nn
  clear h2 h3 h4 nn
  rcases h1 with rfl | rfl
  all_goals
   go_enter Tryz.func48, Tryz.ntmps48
   go_wp2
   go_ret
   exact ⟨by rw [HE.out]; rfl, HN.out⟩
 have t5 : decide (1000 < (d.size : Int)) = false := decide_eq_false (by omega)
 have HE := jD (show actE ⟨k, c, d⟩ = 0 by unfold actE; rw [if_neg (fun h => h h1), if_neg (by simp only; omega), if_neg h4])
 have HN := jD nn
 clear h2 h3 h4 nn
 rcases h1 with rfl | rfl
 all_goals
  go_enter Tryz.func48, Tryz.ntmps48
  go_wp2
  go_ret
  exact ⟨by rw [HE.out]; rfl, HN.out⟩
set_option maxHeartbeats 1000000 in
theorem checkRun_any (m s : Int) (v : Value) (l : List Act) (w : World) (hl : ALst w w.heap.size v l) :
  Calls Tryz.prog 24 #[.agg #[.int .i64 m, .int .i64 s], v] w fun e w' => e = .returned (.int .i64 (runE m s l)) ∧ Below w.heap.size w w' := by
 obtain ⟨A, c, rfl, hc⟩ := hl.form
 have hby := hl.bytes
 have HL := jD hl
 have HCS := jD (checkSetup_any m s)
 clear hl
 by_cases hs : setupE m s = 0
 case neg =>
  have HE := jD (show runE m s l = setupE m s by unfold runE; rw [if_pos hs])
  have t1 : (setupE m s != 0) = true := bne_iff_ne.2 hs
  clear hs
  generalize setupE m s = e0 at *
  go_enter Tryz.func24, Tryz.ntmps24
  go_wp2_with fail
  refine (HCS.out _).mono ?_
  rintro e w1 ⟨rfl, hb⟩
  have HB := jD hb
  go_wp2
  go_ret
  exact ⟨by rw [HE.out]; rfl, bel_add' ((Below.refl w.heap.size w).alloc (nL _) _) HB.out (by simp)⟩
 rw [hs] at HCS
 by_cases h3 : 300 < l.length
 ·have t2 : decide (300 < (l.length : Int)) = true := decide_eq_true (by omega)
  have HE := jD (show runE m s l = 1 by unfold runE; rw [if_neg (fun h => h hs), if_pos h3])
  clear hs
  go_enter Tryz.func24, Tryz.ntmps24
  go_wp2_with fail
  refine (HCS.out _).mono ?_
  rintro e w1 ⟨rfl, hb⟩
  have HB := jD hb
  go_wp2
  go_ret
  exact ⟨by rw [HE.out]; rfl, bel_add' ((Below.refl w.heap.size w).alloc (nL _) _) HB.out (by simp)⟩
 have t2 : decide (300 < (l.length : Int)) = false := decide_eq_false (by omega)
 have HE := jD (show runE m s l = actsE l by unfold runE; rw [if_neg (fun h => h hs), if_neg h3])
 clear hs
 go_enter Tryz.func24, Tryz.ntmps24
 go_wp2_with fail
 refine (HCS.out _).mono ?_
 rintro e w1 ⟨rfl, hb⟩
 have HB := jD (bel_add' ((Below.refl w.heap.size w).alloc (nL _) _) hb (by simp))
 clear hb
 go_wp2
 go_loopw [19] (fun j wr => ∃ k : Nat, k ≤ l.length ∧ j = .int .i64 k ∧ Hid (actsE (l.take k) = 0 ∧ Below w.heap.size w wr)) (fun j _ => l.length - (intOf j).toNat)
 case atStart => exact ⟨0, by omega, rfl, rfl, HB.out⟩
 case round =>
  obtain ⟨k, hk, rfl, hR⟩ := hrel
  clear HB
  by_cases hlt : k < l.length
  ·obtain ⟨b, off, rfl, hb, l0, l1, l2⟩ := HL.out.pt hlt
   have bl := hR.out.2
   have d0 := (bl.cell (p := ⟨b, off + k * 3, none⟩) hb).trans l0
   have d1 := (bl.cell (p := ⟨b, off + k * 3 + 1, none⟩) hb).trans l1
   have d2 := (bl.cell (p := ⟨b, off + k * 3 + 2, none⟩) hb).trans l2
   have hbw : b < wr.heap.size := Nat.lt_of_lt_of_le hb bl.size
   have HT := jD (actsE_take hlt hR.out.1)
   have HO := jD (fun h => actsE_of hlt hR.out.1 h)
   have HC := jD (fun wc => checkAct_any l[k].kind l[k].c l[k].data wc)
   have HBL := jD bl
   obtain ⟨q, HQ⟩ : ∃ q, Hid (actE l[k] = q) := ⟨_, jD rfl⟩
   have hq : actE ⟨l[k].kind, l[k].c, l[k].data⟩ = q := HQ.out
   rw [hq] at HC
   rw [HQ.out] at HT HO
   generalize l[k] = x at *
   clear l0 l1 l2 bl hq HQ hR
   go_wp2_with fail
   refine (HC.out _).mono ?_
   rintro e w2 ⟨rfl, hb2⟩
   have HB2 := jD (bel_add' (HBL.out.alloc HBL.out.size (.cells #[.int .i64 x.kind, .int .i64 x.c, .string x.data] 54)) hb2 (by have := HBL.out.size; simp; omega))
   clear hb2
   by_cases hq : q = 0
   ·subst hq
    go_wp2
    go_roundw
    case rel => exact ⟨k + 1, by omega, by go_num, HT.out, HB2.out⟩
    case measure => simp [intOf]; omega
   ·have t1 : (q != 0) = true := bne_iff_ne.2 hq
    have HO2 := jD (HO.out hq)
    clear HO hq
    go_wp2
    go_ret
    exact ⟨by rw [HE.out, HO2.out]; rfl, HB2.out⟩
  ·obtain rfl : k = l.length := by omega
   have HZ := jD hR.out.1
   rw [List.take_length] at HZ
   have HBL := jD hR.out.2
   go_wp2
   go_ret
   exact ⟨by rw [HE.out, HZ.out]; rfl, HBL.out⟩
end Go.Proofs.YtpbaobmegomfpabGreatDoor
