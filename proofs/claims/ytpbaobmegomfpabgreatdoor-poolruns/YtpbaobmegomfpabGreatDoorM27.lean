/-
  Texts of the proof, one behind the other: Grid, Play, GridD, PoolW4, Say13.
-/
import Derived.Test.YtpbaobmegomfpabGreatDoorM1
import Derived.Test.YtpbaobmegomfpabGreatDoorM2
import Derived.Test.YtpbaobmegomfpabGreatDoorM20
import Derived.Test.YtpbaobmegomfpabGreatDoorM25
import Derived.Test.YtpbaobmegomfpabGreatDoorM26
import Derived.Test.YtpbaobmegomfpabGreatDoorM18
import Derived.Deep.AppendLies
import Derived.Test.YtpbaobmegomfpabGreatDoorM24
import Derived.Test.YtpbaobmegomfpabGreatDoorRows
import Derived.WalkKit
import Derived.WalkSpells
import Derived.WalkLawsBesides
import Derived.Deep.QuietTactic
import Derived.BigQuiet
import Derived.Lib.Hide
import Derived.IntWalk
set_option linter.unusedVariables false
set_option linter.unusedSimpArgs false
set_option maxRecDepth 100000
open List renaming getElem_toArray → gTA, getElem_cons_zero → gCZ, getElem_cons_succ → gCS, setIfInBounds_toArray → sTA, set_cons_zero → sCZ, set_cons_succ → sCS
open Go.Lib renaming hid → jD
open Nat renaming le_refl → nL
namespace Go.Proofs.YtpbaobmegomfpabGreatDoor
open Go Go.RowKit
def pt (b : Nat) : Value := .pointer (some ⟨b, 0, none⟩)
def fr (dp dq : Nat) (a : Go.Act) : Option Nat → Option Nat → Go.Act
 | none, none => a
 | some b, none => a.put (some dp) (pt b)
 | none, some c => a.put (some dq) (pt c)
 | some b, some c => (a.put (some dp) (pt b)).put (some dq) (pt c)
def zs (lo : Nat) (t : TypeId) (zc : Array Value) (x : Option Nat) (w : World) : Prop := ∀ b, x = some b → lo ≤ b ∧ w.heap[b]? = some (.cells zc t (0, 0))
theorem zs_none (lo : Nat) (t : TypeId) (zc : Array Value) (w : World) : zs lo t zc none w := fun _ h => by cases h
theorem zs_alloc {lo : Nat} {t : TypeId} {zc : Array Value} {x : Option Nat} {w : World} (h : zs lo t zc x w) (o : Obj) : zs lo t zc x (w.alloc o) := fun b hb => by
 have := h b hb
 rw [Below.heap_alloc _ _ _ (Array.getElem?_eq_some_iff.1 this.2).1]; exact this
theorem zs_new {lo : Nat} (t : TypeId) (zc : Array Value) (w : World) (h : lo ≤ w.heap.size) : zs lo t zc (some w.heap.size) (w.alloc (.cells zc t)) := fun b hb => by
 injection hb with hb; subst hb; exact ⟨h, heap_alloc_new w _⟩
theorem zs_row {lo : Nat} {t : TypeId} {zc : Array Value} {b : Nat} {w : World} (h : zs lo t zc (some b) w) : RowTo w b t zc.size zc.toList := ⟨zc, (h b rfl).2, rfl, by rw [List.take_of_length_le (by simp)]⟩
theorem zs_below {lo : Nat} {t : TypeId} {zc : Array Value} {x : Option Nat} {w w' : World} (h : zs lo t zc x w) (hb : Below w.heap.size w w') : zs lo t zc x w' := fun b e => by
 have := h b e
 exact ⟨this.1, (hb.block b (Array.getElem?_eq_some_iff.1 this.2).1).trans this.2⟩
theorem pc {a : Go.Act} {d e : Nat} (h : d ≠ e) (v u : Value) : (a.put (some d) v).put (some e) u = (a.put (some e) u).put (some d) v := Go.Act.put_comm a v u (fun x hx hy => by injection hx with hx; injection hy with hy; exact h (hx.trans hy.symm))
theorem fr_put {dp dq d : Nat} (h1 : d ≠ dp) (h2 : d ≠ dq) (a : Go.Act) (x y : Option Nat) (v : Value) : (fr dp dq a x y).put (some d) v = fr dp dq (a.put (some d) v) x y := by
 cases x <;> cases y <;> simp only [fr]
 ·rw [pc (Ne.symm h2)]
 ·rw [pc (Ne.symm h1)]
 ·rw [pc (Ne.symm h2), pc (Ne.symm h1)]
section
variable {P : Program} {ops : Array Oper} {Q : Exit → Go.Act → World → Prop} {md : Region.Mode} {S : World → Prop} {z : Nat}
theorem wpOp_wp {i : Nat} {o : Oper} {K : Go.Act → World → Prop} {a : Go.Act} {w : World} (ho : ops[i]? = some o) (hg : o.guard = none) (h : o.wp P a w K Q) : wpOp P ops Q i K a w := by
 unfold wpOp
 simp only [ho]
 rw [if_pos (by simp [Region.wanted, hg])]
 exact .inl h
theorem wp_call {o : Oper} {a : Go.Act} {w : World} {K : Go.Act → World → Prop} {g : FuncId} {args : Array Value} (hr : (execOp a.eval o).run P w = .ok (.enter g args) w)
  (h : Calls P g args w fun e w' => ∃ v, e = .returned v ∧ K (a.put o.dst v) w') : o.wp P a w K Q := by
 unfold Oper.wp
 rw [hr]
 refine Calls.mono h fun e w' he => ?_
 obtain ⟨v, rfl, hk⟩ := he
 exact hk
theorem wp_val {o : Oper} {a : Go.Act} {w w' : World} {K : Go.Act → World → Prop} {v : Value} (hr : (execOp a.eval o).run P w = .ok (.value v) w') (h : K (a.put o.dst v) w') : o.wp P a w K Q := by
 unfold Oper.wp; rw [hr]; exact h
structure GridS (P : Program) (md : Region.Mode) (ops : Array Oper) (C : Nat) (cop dst : Nat → Nat) (p q dp dq : Nat) (tp tq : TypeId) (zp zq : Array Value) (Lst : Nat → Bool → Bool → Array Bool) (Lst' : Bool → Bool → Array Bool) : Prop where
 op : ∃ o, ops[p]? = some o ∧ o.guard = none ∧ o.dst = some dp ∧ ∀ (ev : Operand → Value) w, (execOp ev o).run P w = .ok (.value (pt w.heap.size)) (w.alloc (.cells zp tp))
 oq : ∃ o, ops[q]? = some o ∧ o.guard = none ∧ o.dst = some dq ∧ ∀ (ev : Operand → Value) w, (execOp ev o).run P w = .ok (.value (pt w.heap.size)) (w.alloc (.cells zq tq))
 ne : dp ≠ dq
 dn : ∀ c, c < C → dst c ≠ dp ∧ dst c ≠ dq
 ready : ∀ c x y, c < C → Region.ready md ops (Lst c x y) = cop c :: ((if x then [] else [p]) ++ (if y then [] else [q]))
 ready' : ∀ x y, (x && y) = false → Region.ready md ops (Lst' x y) = (if x then [] else [p]) ++ (if y then [] else [q])
 setc : ∀ c x y, c < C → (Lst c x y).setIfInBounds (cop c) true = Lst (c + 1) x y
 setp : ∀ c y, c < C → (Lst c false y).setIfInBounds p true = Lst c true y
 setq : ∀ c x, c < C → (Lst c x false).setIfInBounds q true = Lst c x true
 setp' : ∀ y, (Lst' false y).setIfInBounds p true = Lst' true y
 setq' : ∀ x, (Lst' x false).setIfInBounds q true = Lst' x true
variable {C : Nat} {cop dst : Nat → Nat} {p q dp dq : Nat} {tp tq : TypeId} {zp zq : Array Value} {Lst : Nat → Bool → Bool → Array Bool} {Lst' : Bool → Bool → Array Bool}
theorem grid (G : GridS P md ops C cop dst p q dp dq tp tq zp zq Lst Lst') (J : Nat → Go.Act → World → Prop) (J' : Go.Act → World → Prop) (n0 k0 lo : Nat)
  (hJ : ∀ c a w o, J c a w → J c a (w.alloc o)) (hJ' : ∀ a w o, J' a w → J' a (w.alloc o)) (hS : ∀ c a w, J c a w → S w) (hS' : ∀ a w, J' a w → S w) (hl : ∀ c a w, J c a w → lo ≤ w.heap.size) (hl' : ∀ a w, J' a w → lo ≤ w.heap.size)
  (hcall : ∀ c a w x y, c < C → J c a w → zs lo tp zp x w → zs lo tq zq y w → wpOp P ops Q (cop c) (fun a' w' => ∃ v, a' = (fr dp dq a x y).put (some (dst c)) v ∧ J (c + 1) (a.put (some (dst c)) v) w' ∧ zs lo tp zp x w' ∧ zs lo tq zq y w') (fr dp dq a x y) w)
  (htake : ∀ a w x y n, J C a w → zs lo tp zp x w → zs lo tq zq y w → (∀ a', J' a' w → wpAnyZ P md ops Q S z n (Lst' x.isSome y.isSome) (fr dp dq a' x y) w) → wpAnyZ P md ops Q S z (n + k0) (Lst C x.isSome y.isSome) (fr dp dq a x y) w)
  (hfin : ∀ a w b c, J' a w → zs lo tp zp (some b) w → zs lo tq zq (some c) w → wpAnyZ P md ops Q S z n0 (Lst' true true) (fr dp dq a (some b) (some c)) w) :
  ∀ a w, J 0 a w → wpAnyZ P md ops Q S z (n0 + 2 + k0 + C) (Lst 0 false false) a w := by
 obtain ⟨o1, p1, p2, p3, p4⟩ := G.op
 obtain ⟨o2, q1, q2, q3, q4⟩ := G.oq
 have ap : ∀ (a : Go.Act) (y : Option Nat) (w : World) (K : Go.Act → World → Prop), K (fr dp dq a (some w.heap.size) y) (w.alloc (.cells zp tp)) → wpOp P ops Q p K (fr dp dq a none y) w := fun a y w K h => by
  refine wpOp_wp p1 p2 (wp_val (p4 _ w) ?_)
  rw [p3]
  cases y with
  | none => exact h
  | some c =>
   have e : (fr dp dq a none (some c)).put (some dp) (pt w.heap.size) = fr dp dq a (some w.heap.size) (some c) := by simp only [fr]; rw [pc (Ne.symm G.ne)]
   rw [e]; exact h
 have aq : ∀ (a : Go.Act) (x : Option Nat) (w : World) (K : Go.Act → World → Prop), K (fr dp dq a x (some w.heap.size)) (w.alloc (.cells zq tq)) → wpOp P ops Q q K (fr dp dq a x none) w := fun a x w K h => by
  refine wpOp_wp q1 q2 (wp_val (q4 _ w) ?_)
  rw [q3]
  cases x <;> exact h
 -- behind the chain
 have last : ∀ (x y : Option Nat) (a : Go.Act) (w : World), J' a w → zs lo tp zp x w → zs lo tq zq y w → wpAnyZ P md ops Q S z (n0 + (!x.isSome).toNat + (!y.isSome).toNat) (Lst' x.isSome y.isSome) (fr dp dq a x y) w := by
  have tt : ∀ b c a w, J' a w → zs lo tp zp (some b) w → zs lo tq zq (some c) w → wpAnyZ P md ops Q S z n0 (Lst' true true) (fr dp dq a (some b) (some c)) w := fun b c a w => hfin a w b c
  have ft : ∀ c a w, J' a w → zs lo tq zq (some c) w → wpAnyZ P md ops Q S z (n0 + 1) (Lst' false true) (fr dp dq a none (some c)) w := fun c a w hj hy => by
   refine ⟨fun h0 => (by rw [G.ready' false true rfl] at h0; cases h0), fun i hi => ?_⟩
   rw [G.ready' false true rfl] at hi
   obtain rfl : i = p := by simpa using hi
   refine ap a _ w _ ⟨fun _ => hS' _ _ (hJ' _ _ _ hj), ?_⟩
   rw [G.setp']
   exact tt _ _ _ _ (hJ' _ _ _ hj) (zs_new _ _ _ (hl' _ _ hj)) (zs_alloc hy _)
  have tf : ∀ b a w, J' a w → zs lo tp zp (some b) w → wpAnyZ P md ops Q S z (n0 + 1) (Lst' true false) (fr dp dq a (some b) none) w := fun b a w hj hx => by
   refine ⟨fun h0 => (by rw [G.ready' true false rfl] at h0; cases h0), fun i hi => ?_⟩
   rw [G.ready' true false rfl] at hi
   obtain rfl : i = q := by simpa using hi
   refine aq a _ w _ ⟨fun _ => hS' _ _ (hJ' _ _ _ hj), ?_⟩
   rw [G.setq']
   exact tt _ _ _ _ (hJ' _ _ _ hj) (zs_alloc hx _) (zs_new _ _ _ (hl' _ _ hj))
  intro x y a w hj hx hy
  cases x with
  | some b =>
   cases y with
   | some c => exact tt b c a w hj hx hy
   | none => exact tf b a w hj hx
  | none =>
   cases y with
   | some c => exact ft c a w hj hy
   | none =>
    refine ⟨fun h0 => (by rw [show Lst' (none : Option Nat).isSome (none : Option Nat).isSome = Lst' false false from rfl, G.ready' false false rfl] at h0; cases h0), fun i hi => ?_⟩
    rw [show Lst' (none : Option Nat).isSome (none : Option Nat).isSome = Lst' false false from rfl, G.ready' false false rfl] at hi
    have hi2 : i = p ∨ i = q := by simpa using hi
    rcases hi2 with rfl | rfl
    ·refine ap a _ w _ ⟨fun _ => hS' _ _ (hJ' _ _ _ hj), ?_⟩
     show wpAnyZ P md ops Q S z (n0 + 1) ((Lst' false false).setIfInBounds i true) _ _
     rw [G.setp']
     exact tf _ _ _ (hJ' _ _ _ hj) (zs_new _ _ _ (hl' _ _ hj))
    ·refine aq a _ w _ ⟨fun _ => hS' _ _ (hJ' _ _ _ hj), ?_⟩
     show wpAnyZ P md ops Q S z (n0 + 1) ((Lst' false false).setIfInBounds i true) _ _
     rw [G.setq']
     exact ft _ _ _ (hJ' _ _ _ hj) (zs_new _ _ _ (hl' _ _ hj))
 -- along the chain
 have main : ∀ (m c : Nat) (x y : Option Nat) (a : Go.Act) (w : World), c ≤ C → m = (C - c) + (!x.isSome).toNat + (!y.isSome).toNat → J c a w → zs lo tp zp x w → zs lo tq zq y w → wpAnyZ P md ops Q S z (n0 + k0 + m) (Lst c x.isSome y.isSome) (fr dp dq a x y) w := by
  intro m
  induction m with
  | zero =>
   intro c x y a w hc hm hj hx hy
   have hcC : c = C := by omega
   subst hcC
   have hxs : (!x.isSome).toNat = 0 := by omega
   have hys : (!y.isSome).toNat = 0 := by omega
   have := htake a w x y n0 hj hx hy (fun a' hj' => by have := last x y a' w hj' hx hy; rw [hxs, hys] at this; exact this)
   exact this
  | succ m ih =>
   intro c x y a w hc hm hj hx hy
   by_cases hcC : c = C
   ·subst hcC
    have := htake a w x y (n0 + (!x.isSome).toNat + (!y.isSome).toNat) hj hx hy (fun a' hj' => last x y a' w hj' hx hy)
    rw [show n0 + k0 + (m + 1) = n0 + (!x.isSome).toNat + (!y.isSome).toNat + k0 by omega]
    exact this
   ·have hlt : c < C := by omega
    rw [show n0 + k0 + (m + 1) = (n0 + k0 + m) + 1 by omega]
    refine ⟨fun h0 => (by rw [G.ready c _ _ hlt] at h0; cases h0), fun i hi => ?_⟩
    rw [G.ready c _ _ hlt] at hi
    rcases List.mem_cons.1 hi with rfl | hi
    ·refine wpOp_mono (fun a' w' h => ?_) (hcall c a w x y hlt hj hx hy)
     obtain ⟨v, rfl, h1, h2, h3⟩ := h
     refine ⟨fun _ => hS _ _ _ h1, ?_⟩
     rw [G.setc c _ _ hlt, fr_put (G.dn c hlt).1 (G.dn c hlt).2]
     exact ih (c + 1) x y _ w' (by omega) (by omega) h1 h2 h3
    ·rcases List.mem_append.1 hi with hi | hi
     ·cases x with
      | some b => simp at hi
      | none =>
       obtain rfl : i = p := by simpa using hi
       refine ap a _ w _ ⟨fun _ => hS _ _ _ (hJ _ _ _ _ hj), ?_⟩
       rw [show Lst c (none : Option Nat).isSome y.isSome = Lst c false y.isSome from rfl, G.setp c _ hlt]
       exact ih c (some w.heap.size) y a _ hc (by simp at hm ⊢; omega) (hJ _ _ _ _ hj) (zs_new _ _ _ (hl _ _ _ hj)) (zs_alloc hy _)
     ·cases y with
      | some b => simp at hi
      | none =>
       obtain rfl : i = q := by simpa using hi
       refine aq a _ w _ ⟨fun _ => hS _ _ _ (hJ _ _ _ _ hj), ?_⟩
       rw [show Lst c x.isSome (none : Option Nat).isSome = Lst c x.isSome false from rfl, G.setq c _ hlt]
       exact ih c x (some w.heap.size) a _ hc (by simp at hm ⊢; omega) (hJ _ _ _ _ hj) (zs_alloc hx _) (zs_new _ _ _ (hl _ _ _ hj))
 intro a w hj
 have := main (C + 1 + 1) 0 none none a w (Nat.zero_le _) (by simp) hj (zs_none _ _ _ _) (zs_none _ _ _ _)
 rw [show n0 + 2 + k0 + C = n0 + k0 + (C + 1 + 1) by omega]
 exact this
theorem grid0 {A0 : Go.Act} {w0 : World} (G : GridS P md ops C cop dst p q dp dq tp tq zp zq Lst Lst') (J : Go.Act → Nat → Go.Act → World → Prop) (J' : Go.Act → Go.Act → World → Prop) (n0 k0 lo : Nat)
  (hJ : ∀ c a w o, J A0 c a w → J A0 c a (w.alloc o)) (hJ' : ∀ a w o, J' A0 a w → J' A0 a (w.alloc o)) (hS : ∀ c a w, J A0 c a w → S w) (hS' : ∀ a w, J' A0 a w → S w) (hl : ∀ c a w, J A0 c a w → lo ≤ w.heap.size) (hl' : ∀ a w, J' A0 a w → lo ≤ w.heap.size)
  (hcall : ∀ c a w x y, c < C → J A0 c a w → zs lo tp zp x w → zs lo tq zq y w → wpOp P ops Q (cop c) (fun a' w' => ∃ v, a' = (fr dp dq a x y).put (some (dst c)) v ∧ J A0 (c + 1) (a.put (some (dst c)) v) w' ∧ zs lo tp zp x w' ∧ zs lo tq zq y w') (fr dp dq a x y) w)
  (htake : ∀ a w x y n, J A0 C a w → zs lo tp zp x w → zs lo tq zq y w → (∀ a', J' A0 a' w → wpAnyZ P md ops Q S z n (Lst' x.isSome y.isSome) (fr dp dq a' x y) w) → wpAnyZ P md ops Q S z (n + k0) (Lst C x.isSome y.isSome) (fr dp dq a x y) w)
  (hfin : ∀ a w b c, J' A0 a w → zs lo tp zp (some b) w → zs lo tq zq (some c) w → wpAnyZ P md ops Q S z n0 (Lst' true true) (fr dp dq a (some b) (some c)) w)
  (h0 : J A0 0 A0 w0) : wpAnyZ P md ops Q S z (n0 + 2 + k0 + C) (Lst 0 false false) A0 w0 := grid G (J A0) (J' A0) n0 k0 lo hJ hJ' hS hS' hl hl' hcall htake hfin A0 w0 h0
end
end Go.Proofs.YtpbaobmegomfpabGreatDoor
namespace Go.Proofs.YtpbaobmegomfpabGreatDoor
open Go.RowKit
theorem cell_sty {w : World} {p q : Addr} {u v : Value} (hp : p.block ≠ q.block) (h : w.cell? q = some v) : (w.setCell p u).cell? q = some v := (World.cell?_setCell_other _ _ _ _ (fun e => hp (by rw [e]))).trans h
theorem WldP.off {w w' : World} {P : Nat → Prop} {R : Nat} {r s : Value} {W : Wd} (h : WldP w P r s W) (h2 : NoTwo w R) (hs : NoSes w R) (hz : w'.heap.size = w.heap.size) (hk : ∀ b, b ≠ R → w'.heap[b]? = w.heap[b]?) : WldP w' P r s W := by
 have hw : Wld w' w'.heap.size r s W := by rw [hz]; exact h.wld.off h2 hs hk
 refine ⟨hw, h.rows, fun hn b off n c e => ⟨(h.ses hn b off n c e).1, fun k j v hk' hj hv => ?_⟩⟩
 obtain ⟨b', off', c', e', hb, hc⟩ := h.wld.sess.cells hn
 have he : b = b' ∧ off = off' := by rw [e] at e'; injection e' with e'; injection e' with e'; injection e' with e1 e2; exact ⟨e1, e2⟩
 obtain ⟨rfl, rfl⟩ := he
 have hne : b ≠ R := by
  rintro rfl
  obtain ⟨v1, v2, v3, v4, q⟩ := hc 0 hn
  obtain ⟨A, c', hv', _⟩ := q.l1.form
  have := q.c1
  rw [hv'] at this
  exact hs _ _ _ _ _ q.c0 this
 rw [World.cell?_of_block (hk b hne)] at hv
 exact (h.ses hn b off n c e).2 k j v hk' hj hv
theorem made_sess {w : World} {S n : Nat} (h : RowTo w S 115 (n * 5) (madeCells #[.int .i64 0, .slice none 0 0, .slice none 0 0, .slice none 0 0, .slice none 0 0] (n * 5)).toList) (hn : n ≤ 8) : Sss w w.heap.size (.slice (some ⟨S, 0, none⟩) n n) (List.replicate n Sess.zero) := by
 refine ⟨⟨some ⟨S, 0, none⟩, n, by simp, by simp⟩, by simp; omega, fun hp => ⟨S, 0, n, by simp, h.lt, fun i hi => ?_⟩⟩
 simp only [List.length_replicate] at hi
 have hlen : (madeCells #[Value.int .i64 0, .slice none 0 0, .slice none 0 0, .slice none 0 0, .slice none 0 0] (n * 5)).toList.length = n * 5 := by simp [madeCells]
 have c : ∀ j, j < 5 → w.cell? ⟨S, 0 + i * 5 + j, none⟩ = [Value.int .i64 0, .slice none 0 0, .slice none 0 0, .slice none 0 0, .slice none 0 0][j]? := fun j hj => by
  have hlt : 0 + i * 5 + j < (madeCells #[Value.int .i64 0, .slice none 0 0, .slice none 0 0, .slice none 0 0, .slice none 0 0] (n * 5)).toList.length := by rw [hlen]; omega
  rw [h.cell hlt]
  have e : (0 + i * 5 + j) % 5 = j := by omega
  simp only [madeCells, Array.toList_ofFn, List.getElem_ofFn]
  match j, hj, e with
  | 0, _, e => simp [e]
  | 1, _, e => simp [e]
  | 2, _, e => simp [e]
  | 3, _, e => simp [e]
  | 4, _, e => simp [e]
 simp only [List.getElem_replicate]
 exact ⟨_, _, _, _, c 0 (by omega), c 1 (by omega), c 2 (by omega), c 3 (by omega), c 4 (by omega), Lst.none_ _ _, Lst.none_ _ _, Lst.none_ _ _, Lst.none_ _ _⟩
section
variable {wr : World} {c : Value} {x : Value × Value × Value} {V : Wd} {an : Ans} {st : Int} {A0 : Go.Act}
end
structure NewAt (wr w9 : World) (b1 c1 : Nat) (V : Wd) (a : Ans) (st : Int) (r2 s2 : Value) : Prop where
 b : RowTo w9 b1 39 2 [r2, s2]
 c : RowTo w9 c1 46 3 [.int .i64 a.kind, .string a.text, .int .i64 st]
 wld : WldP w9 (fun b => wr.heap.size ≤ b) r2 s2 V
 bel : Below wr.heap.size wr w9
 lb : wr.heap.size ≤ b1
 lc : wr.heap.size ≤ c1
 ne : b1 ≠ c1
theorem new_at {wr wc : World} {b1 c1 : Nat} {V : Wd} {a : Ans} {st : Int} {r2 s2 : Value} (hX : RowTo wc b1 39 2 [.slice none 0 0, .slice none 0 0]) (hY : RowTo wc c1 46 3 [.int .i64 0, .string ⟨#[]⟩, .int .i64 0]) (hw : WldP wc (fun b => wr.heap.size ≤ b) r2 s2 V) (hb : Below wr.heap.size wr wc) (lb : wr.heap.size ≤ b1) (lc : wr.heap.size ≤ c1) (hbc : b1 ≠ c1) :
  NewAt wr (((((wc.setCell ⟨b1, 0, none⟩ r2).setCell ⟨b1, 1, none⟩ s2).setCell ⟨c1, 0, none⟩ (.int .i64 a.kind)).setCell ⟨c1, 1, none⟩ (.string a.text)).setCell ⟨c1, 2, none⟩ (.int .i64 st)) b1 c1 V a st r2 s2 := by
 have Y1 := hY.oth2 hbc r2 s2
 refine ⟨(hX.set2 r2 s2).oth3 (Ne.symm hbc) _ _ _, Y1.set3 _ _ _, ?_, bel_set3 (bel_set2 hb lb _ _) lc _ _ _, lb, lc, hbc⟩
 refine WldP.off (R := c1) (w := (wc.setCell ⟨b1, 0, none⟩ r2).setCell ⟨b1, 1, none⟩ s2) ?_ (noTwo_answer Y1) (noSes_answer Y1) (by simp [World.setCell]) (fun b hb => by rw [Below.heap_setCell _ _ _ _ hb, Below.heap_setCell _ _ _ _ hb, Below.heap_setCell _ _ _ _ hb])
 exact hw.off (noTwo_world hX) (noSes_world hX) (by simp [World.setCell]) (fun b hb => by rw [Below.heap_setCell _ _ _ _ hb, Below.heap_setCell _ _ _ _ hb])
def putsN (A0 : Go.Act) (vs : Nat → Nat × Value) : Nat → Go.Act
 | 0 => A0
 | c + 1 => (putsN A0 vs c).put (some (vs c).1) (vs c).2
def DJ (wr : World) (C : Nat) (vs : Nat → Nat × Value) (dl : Nat) (res : Value → Value → Value) (Post : Value → Value → World → Prop) (A0 : Go.Act) (c : Nat) (f : Go.Act) (wc : World) : Prop :=
 Below wr.heap.size wr wc ∧ (c ≤ C → f = putsN A0 vs c) ∧ (C < c → ∃ r2 s2, f = (putsN A0 vs C).put (some dl) (res r2 s2) ∧ Post r2 s2 wc)
def DJ' (wr : World) (F : Go.Act → Value → Value → Go.Act) (Post : Value → Value → World → Prop) (A0 : Go.Act) (f : Go.Act) (wc : World) : Prop :=
 Below wr.heap.size wr wc ∧ ∃ r2 s2, f = F A0 r2 s2 ∧ Post r2 s2 wc
section
variable {wr : World} {C : Nat} {vs : Nat → Nat × Value} {dl : Nat} {res : Value → Value → Value} {Post : Value → Value → World → Prop} {F : Go.Act → Value → Value → Go.Act} {A0 : Go.Act}
theorem dj_alloc (hP : ∀ r s w o, Post r s w → Post r s (w.alloc o)) (c : Nat) (f : Go.Act) (w : World) (o : Obj) (h : DJ wr C vs dl res Post A0 c f w) : DJ wr C vs dl res Post A0 c f (w.alloc o) :=
 ⟨h.1.alloc h.1.size o, h.2.1, fun hc => by obtain ⟨r2, s2, h1, h2⟩ := h.2.2 hc; exact ⟨r2, s2, h1, hP _ _ _ _ h2⟩⟩
theorem dj'_alloc (hP : ∀ r s w o, Post r s w → Post r s (w.alloc o)) (f : Go.Act) (w : World) (o : Obj) (h : DJ' wr F Post A0 f w) : DJ' wr F Post A0 f (w.alloc o) := by
 obtain ⟨h0, r2, s2, h1, h2⟩ := h
 exact ⟨h0.alloc h0.size o, r2, s2, h1, hP _ _ _ _ h2⟩
end
theorem wldP_alloc {P : Nat → Prop} {V : Wd} (r s : Value) (w : World) (o : Obj) (h : WldP w P r s V) : WldP (w.alloc o) P r s V := h.below ((Below.refl w.heap.size w).alloc (nL _) o)
theorem PMem.off {X : Nat} {w w' : World} {base P R : Nat} {f : Nat → Value} {G : Nat → Option Nat} {mode : Int} {m : Mach PE} (h : PMem X w base P f G mode m) (h2 : NoTwo w R) (hs : NoSes w R) (hG : ∀ i, G i ≠ some R) (hz : w'.heap.size = w.heap.size) (hk : ∀ b, b ≠ R → w'.heap[b]? = w.heap[b]?) : PMem X w' base P f G mode m := by
 have hP : P ≠ R := fun e => hG 0 (by rw [h.p0, e])
 have ll : ∀ {v : Value} {l : PL}, Lst w w.heap.size v l ∧ InP (Free G) v l → Lst w' w'.heap.size v l ∧ InP (Free G) v l := fun a => ⟨by rw [hz]; exact a.1.offN h2 hk, a.2⟩
 exact ⟨h.row.same (hk P hP), h.p0, fun i b hb => by rw [hz]; exact h.lo i b hb, h.inj, fun k a b c => (h.sl k a b c).keep fun g hg => hk g (fun e => hG k (by rw [hg, e])), h.md, h.wld.off h2 hs hz hk, h.bytes, h.has, h.srv, fun c hc => ll (h.set c hc), fun c hc => ll (h.prep c hc)⟩
theorem PMem.ans3 {X : Nat} {w : World} {base P R : Nat} {f : Nat → Value} {G : Nat → Option Nat} {mode : Int} {m : Mach PE} {x y : Int} {s : ByteArray} (h : PMem X w base P f G mode m) (hR : RowTo w R 46 3 [.int .i64 x, .string s, .int .i64 y]) (hG : ∀ i, G i ≠ some R) (a b c : Value) : PMem X (((w.setCell ⟨R, 0, none⟩ a).setCell ⟨R, 1, none⟩ b).setCell ⟨R, 2, none⟩ c) base P f G mode m :=
 h.off (noTwo_answer hR) (noSes_answer hR) hG (by simp [World.setCell]) fun b' hb => by rw [Below.heap_setCell _ _ _ _ hb, Below.heap_setCell _ _ _ _ hb, Below.heap_setCell _ _ _ _ hb]
structure Leads (w : World) : Prop where
 room : 0 < w.heap.size
 cell : ∀ k, k ≤ 4 → w.cell? ⟨0, k, none⟩ = some (.string (leadAt k))
theorem Leads.below {w w' : World} (h : Leads w) (hb : Below w.heap.size w w') : Leads w' :=
 ⟨Nat.lt_of_lt_of_le h.room hb.size, fun k hk => (hb.cell (p := ⟨0, k, none⟩) h.room).trans (h.cell k hk)⟩
theorem Leads.alloc {w : World} (h : Leads w) (o : Obj) : Leads (w.alloc o) := h.below ((Below.refl _ _).alloc (nL _) _)
theorem mark_cut : ∀ st, st ≤ 2 → (⟨#[73, 84, 70]⟩ : ByteArray).extract st (st + 1) = markAt st := by decide
theorem mark_size : ∀ st, st ≤ 2 → ((⟨#[73, 84, 70]⟩ : ByteArray).extract st (st + 1)).size = 1 := by decide
theorem lead_size : ∀ k, k ≤ 4 → (leadAt k).size ≤ 4 := by decide
theorem tell_sum (st k : Nat) (hst : st ≤ 2) (hk : k ≤ 4) (x : ByteArray) (hs : x.size ≤ 60) :
  ((⟨#[73, 84, 70]⟩ : ByteArray).extract st (st + 1)).size + (leadAt k).size ≤ 9223372036854775807 ∧ ((⟨#[73, 84, 70]⟩ : ByteArray).extract st (st + 1) ++ leadAt k).size + x.size ≤ 9223372036854775807 := by
 have h1 := mark_size st hst
 have h2 := lead_size k hk
 rw [ByteArray.size_append]
 omega
set_option maxHeartbeats 1000000 in
theorem tell_1_0 (x : ByteArray) (w : World) (hL : Leads w) (hs : x.size ≤ 60) (e1 : x.toList.isEmpty = true) :
  Calls Tryz.prog 13 #[.agg #[.int .i64 1, .string x, .int .i64 0]] w fun e w' => e = .returned (.tuple #[.string (tellT 1 0 x), .int .i64 0]) ∧ Below w.heap.size w w' := by
 have ht := jD (show tellT 1 0 x = ((⟨#[73, 84, 70]⟩ : ByteArray).extract 0 1 ++ leadAt 1) ++ x by unfold tellT; rw [← mark_cut 0 (by omega)])
 have hz := tell_sum 0 1 (by omega) (by omega) x hs
 have a1 := fun W => run_string_add_sum (P := Tryz.prog) W ((⟨#[73, 84, 70]⟩ : ByteArray).extract 0 1) (leadAt 1) hz.1
 have a2 := fun W => run_string_add_sum (P := Tryz.prog) W ((⟨#[73, 84, 70]⟩ : ByteArray).extract 0 1 ++ leadAt 1) x hz.2
 have d5 : decide (60 < (x.size : Int)) = false := decide_eq_false (by omega)
 have hc := hL.cell 1 (by omega)
 have hroom := hL.room
 have hroom' : 0 ≠ w.heap.size := by omega
 have g1 : IntKind.i64.wrap 1 = 1 := rfl
 clear hL hz
 go_enter Tryz.func13, Tryz.ntmps13
 go_wp2
 go_quiet (fail)
 go_wp2
 go_ret2
 exact ⟨by rw [ht.out]; rfl, below_drewN ((Below.refl _ _).alloc (nL _) _) nq⟩
set_option maxHeartbeats 1000000 in
theorem tell_1_1 (x : ByteArray) (w : World) (hL : Leads w) (hs : x.size ≤ 60) (e1 : x.toList.isEmpty = true) :
  Calls Tryz.prog 13 #[.agg #[.int .i64 1, .string x, .int .i64 1]] w fun e w' => e = .returned (.tuple #[.string (tellT 1 1 x), .int .i64 0]) ∧ Below w.heap.size w w' := by
 have ht := jD (show tellT 1 1 x = ((⟨#[73, 84, 70]⟩ : ByteArray).extract 1 2 ++ leadAt 1) ++ x by unfold tellT; rw [← mark_cut 1 (by omega)])
 have hz := tell_sum 1 1 (by omega) (by omega) x hs
 have a1 := fun W => run_string_add_sum (P := Tryz.prog) W ((⟨#[73, 84, 70]⟩ : ByteArray).extract 1 2) (leadAt 1) hz.1
 have a2 := fun W => run_string_add_sum (P := Tryz.prog) W ((⟨#[73, 84, 70]⟩ : ByteArray).extract 1 2 ++ leadAt 1) x hz.2
 have d5 : decide (60 < (x.size : Int)) = false := decide_eq_false (by omega)
 have hc := hL.cell 1 (by omega)
 have hroom := hL.room
 have hroom' : 0 ≠ w.heap.size := by omega
 have g1 : IntKind.i64.wrap 2 = 2 := rfl
 clear hL hz
 go_enter Tryz.func13, Tryz.ntmps13
 go_wp2
 go_quiet (fail)
 go_wp2
 go_ret2
 exact ⟨by rw [ht.out]; rfl, below_drewN ((Below.refl _ _).alloc (nL _) _) nq⟩
set_option maxHeartbeats 1000000 in
theorem tell_1_2 (x : ByteArray) (w : World) (hL : Leads w) (hs : x.size ≤ 60) (e1 : x.toList.isEmpty = true) :
  Calls Tryz.prog 13 #[.agg #[.int .i64 1, .string x, .int .i64 2]] w fun e w' => e = .returned (.tuple #[.string (tellT 1 2 x), .int .i64 0]) ∧ Below w.heap.size w w' := by
 have ht := jD (show tellT 1 2 x = ((⟨#[73, 84, 70]⟩ : ByteArray).extract 2 3 ++ leadAt 1) ++ x by unfold tellT; rw [← mark_cut 2 (by omega)])
 have hz := tell_sum 2 1 (by omega) (by omega) x hs
 have a1 := fun W => run_string_add_sum (P := Tryz.prog) W ((⟨#[73, 84, 70]⟩ : ByteArray).extract 2 3) (leadAt 1) hz.1
 have a2 := fun W => run_string_add_sum (P := Tryz.prog) W ((⟨#[73, 84, 70]⟩ : ByteArray).extract 2 3 ++ leadAt 1) x hz.2
 have d5 : decide (60 < (x.size : Int)) = false := decide_eq_false (by omega)
 have hc := hL.cell 1 (by omega)
 have hroom := hL.room
 have hroom' : 0 ≠ w.heap.size := by omega
 have g1 : IntKind.i64.wrap 3 = 3 := rfl
 clear hL hz
 go_enter Tryz.func13, Tryz.ntmps13
 go_wp2
 go_quiet (fail)
 go_wp2
 go_ret2
 exact ⟨by rw [ht.out]; rfl, below_drewN ((Below.refl _ _).alloc (nL _) _) nq⟩
set_option maxHeartbeats 1000000 in
theorem tell_2_0 (x : ByteArray) (w : World) (hL : Leads w) (hs : x.size ≤ 60) (e1 : x.toList.isEmpty = false) :
  Calls Tryz.prog 13 #[.agg #[.int .i64 2, .string x, .int .i64 0]] w fun e w' => e = .returned (.tuple #[.string (tellT 2 0 x), .int .i64 0]) ∧ Below w.heap.size w w' := by
 have ht := jD (show tellT 2 0 x = ((⟨#[73, 84, 70]⟩ : ByteArray).extract 0 1 ++ leadAt 2) ++ x by unfold tellT; rw [← mark_cut 0 (by omega)])
 have hz := tell_sum 0 2 (by omega) (by omega) x hs
 have a1 := fun W => run_string_add_sum (P := Tryz.prog) W ((⟨#[73, 84, 70]⟩ : ByteArray).extract 0 1) (leadAt 2) hz.1
 have a2 := fun W => run_string_add_sum (P := Tryz.prog) W ((⟨#[73, 84, 70]⟩ : ByteArray).extract 0 1 ++ leadAt 2) x hz.2
 have d5 : decide (60 < (x.size : Int)) = false := decide_eq_false (by omega)
 have hc := hL.cell 2 (by omega)
 have hroom := hL.room
 have hroom' : 0 ≠ w.heap.size := by omega
 have g1 : IntKind.i64.wrap 1 = 1 := rfl
 clear hL hz
 go_enter Tryz.func13, Tryz.ntmps13
 go_wp2
 go_quiet (fail)
 go_wp2
 go_ret2
 exact ⟨by rw [ht.out]; rfl, below_drewN ((Below.refl _ _).alloc (nL _) _) nq⟩
set_option maxHeartbeats 1000000 in
theorem tell_2_1 (x : ByteArray) (w : World) (hL : Leads w) (hs : x.size ≤ 60) (e1 : x.toList.isEmpty = false) :
  Calls Tryz.prog 13 #[.agg #[.int .i64 2, .string x, .int .i64 1]] w fun e w' => e = .returned (.tuple #[.string (tellT 2 1 x), .int .i64 0]) ∧ Below w.heap.size w w' := by
 have ht := jD (show tellT 2 1 x = ((⟨#[73, 84, 70]⟩ : ByteArray).extract 1 2 ++ leadAt 2) ++ x by unfold tellT; rw [← mark_cut 1 (by omega)])
 have hz := tell_sum 1 2 (by omega) (by omega) x hs
 have a1 := fun W => run_string_add_sum (P := Tryz.prog) W ((⟨#[73, 84, 70]⟩ : ByteArray).extract 1 2) (leadAt 2) hz.1
 have a2 := fun W => run_string_add_sum (P := Tryz.prog) W ((⟨#[73, 84, 70]⟩ : ByteArray).extract 1 2 ++ leadAt 2) x hz.2
 have d5 : decide (60 < (x.size : Int)) = false := decide_eq_false (by omega)
 have hc := hL.cell 2 (by omega)
 have hroom := hL.room
 have hroom' : 0 ≠ w.heap.size := by omega
 have g1 : IntKind.i64.wrap 2 = 2 := rfl
 clear hL hz
 go_enter Tryz.func13, Tryz.ntmps13
 go_wp2
 go_quiet (fail)
 go_wp2
 go_ret2
 exact ⟨by rw [ht.out]; rfl, below_drewN ((Below.refl _ _).alloc (nL _) _) nq⟩
set_option maxHeartbeats 1000000 in
theorem tell_2_2 (x : ByteArray) (w : World) (hL : Leads w) (hs : x.size ≤ 60) (e1 : x.toList.isEmpty = false) :
  Calls Tryz.prog 13 #[.agg #[.int .i64 2, .string x, .int .i64 2]] w fun e w' => e = .returned (.tuple #[.string (tellT 2 2 x), .int .i64 0]) ∧ Below w.heap.size w w' := by
 have ht := jD (show tellT 2 2 x = ((⟨#[73, 84, 70]⟩ : ByteArray).extract 2 3 ++ leadAt 2) ++ x by unfold tellT; rw [← mark_cut 2 (by omega)])
 have hz := tell_sum 2 2 (by omega) (by omega) x hs
 have a1 := fun W => run_string_add_sum (P := Tryz.prog) W ((⟨#[73, 84, 70]⟩ : ByteArray).extract 2 3) (leadAt 2) hz.1
 have a2 := fun W => run_string_add_sum (P := Tryz.prog) W ((⟨#[73, 84, 70]⟩ : ByteArray).extract 2 3 ++ leadAt 2) x hz.2
 have d5 : decide (60 < (x.size : Int)) = false := decide_eq_false (by omega)
 have hc := hL.cell 2 (by omega)
 have hroom := hL.room
 have hroom' : 0 ≠ w.heap.size := by omega
 have g1 : IntKind.i64.wrap 3 = 3 := rfl
 clear hL hz
 go_enter Tryz.func13, Tryz.ntmps13
 go_wp2
 go_quiet (fail)
 go_wp2
 go_ret2
 exact ⟨by rw [ht.out]; rfl, below_drewN ((Below.refl _ _).alloc (nL _) _) nq⟩
set_option maxHeartbeats 1000000 in
theorem tell_3_0 (x : ByteArray) (w : World) (hL : Leads w) (hs : x.size ≤ 60) (e1 : x.toList.isEmpty = true) :
  Calls Tryz.prog 13 #[.agg #[.int .i64 3, .string x, .int .i64 0]] w fun e w' => e = .returned (.tuple #[.string (tellT 3 0 x), .int .i64 0]) ∧ Below w.heap.size w w' := by
 have ht := jD (show tellT 3 0 x = ((⟨#[73, 84, 70]⟩ : ByteArray).extract 0 1 ++ leadAt 3) ++ x by unfold tellT; rw [← mark_cut 0 (by omega)])
 have hz := tell_sum 0 3 (by omega) (by omega) x hs
 have a1 := fun W => run_string_add_sum (P := Tryz.prog) W ((⟨#[73, 84, 70]⟩ : ByteArray).extract 0 1) (leadAt 3) hz.1
 have a2 := fun W => run_string_add_sum (P := Tryz.prog) W ((⟨#[73, 84, 70]⟩ : ByteArray).extract 0 1 ++ leadAt 3) x hz.2
 have d5 : decide (60 < (x.size : Int)) = false := decide_eq_false (by omega)
 have hc := hL.cell 3 (by omega)
 have hroom := hL.room
 have hroom' : 0 ≠ w.heap.size := by omega
 have g1 : IntKind.i64.wrap 1 = 1 := rfl
 clear hL hz
 go_enter Tryz.func13, Tryz.ntmps13
 go_wp2
 go_quiet (fail)
 go_wp2
 go_ret2
 exact ⟨by rw [ht.out]; rfl, below_drewN ((Below.refl _ _).alloc (nL _) _) nq⟩
set_option maxHeartbeats 1000000 in
theorem tell_3_1 (x : ByteArray) (w : World) (hL : Leads w) (hs : x.size ≤ 60) (e1 : x.toList.isEmpty = true) :
  Calls Tryz.prog 13 #[.agg #[.int .i64 3, .string x, .int .i64 1]] w fun e w' => e = .returned (.tuple #[.string (tellT 3 1 x), .int .i64 0]) ∧ Below w.heap.size w w' := by
 have ht := jD (show tellT 3 1 x = ((⟨#[73, 84, 70]⟩ : ByteArray).extract 1 2 ++ leadAt 3) ++ x by unfold tellT; rw [← mark_cut 1 (by omega)])
 have hz := tell_sum 1 3 (by omega) (by omega) x hs
 have a1 := fun W => run_string_add_sum (P := Tryz.prog) W ((⟨#[73, 84, 70]⟩ : ByteArray).extract 1 2) (leadAt 3) hz.1
 have a2 := fun W => run_string_add_sum (P := Tryz.prog) W ((⟨#[73, 84, 70]⟩ : ByteArray).extract 1 2 ++ leadAt 3) x hz.2
 have d5 : decide (60 < (x.size : Int)) = false := decide_eq_false (by omega)
 have hc := hL.cell 3 (by omega)
 have hroom := hL.room
 have hroom' : 0 ≠ w.heap.size := by omega
 have g1 : IntKind.i64.wrap 2 = 2 := rfl
 clear hL hz
 go_enter Tryz.func13, Tryz.ntmps13
 go_wp2
 go_quiet (fail)
 go_wp2
 go_ret2
 exact ⟨by rw [ht.out]; rfl, below_drewN ((Below.refl _ _).alloc (nL _) _) nq⟩
set_option maxHeartbeats 1000000 in
theorem tell_3_2 (x : ByteArray) (w : World) (hL : Leads w) (hs : x.size ≤ 60) (e1 : x.toList.isEmpty = true) :
  Calls Tryz.prog 13 #[.agg #[.int .i64 3, .string x, .int .i64 2]] w fun e w' => e = .returned (.tuple #[.string (tellT 3 2 x), .int .i64 0]) ∧ Below w.heap.size w w' := by
 have ht := jD (show tellT 3 2 x = ((⟨#[73, 84, 70]⟩ : ByteArray).extract 2 3 ++ leadAt 3) ++ x by unfold tellT; rw [← mark_cut 2 (by omega)])
 have hz := tell_sum 2 3 (by omega) (by omega) x hs
 have a1 := fun W => run_string_add_sum (P := Tryz.prog) W ((⟨#[73, 84, 70]⟩ : ByteArray).extract 2 3) (leadAt 3) hz.1
 have a2 := fun W => run_string_add_sum (P := Tryz.prog) W ((⟨#[73, 84, 70]⟩ : ByteArray).extract 2 3 ++ leadAt 3) x hz.2
 have d5 : decide (60 < (x.size : Int)) = false := decide_eq_false (by omega)
 have hc := hL.cell 3 (by omega)
 have hroom := hL.room
 have hroom' : 0 ≠ w.heap.size := by omega
 have g1 : IntKind.i64.wrap 3 = 3 := rfl
 clear hL hz
 go_enter Tryz.func13, Tryz.ntmps13
 go_wp2
 go_quiet (fail)
 go_wp2
 go_ret2
 exact ⟨by rw [ht.out]; rfl, below_drewN ((Below.refl _ _).alloc (nL _) _) nq⟩
set_option maxHeartbeats 1000000 in
theorem tell_4_0 (x : ByteArray) (w : World) (hL : Leads w) (hs : x.size ≤ 60) (e1 : x.toList.isEmpty = false) :
  Calls Tryz.prog 13 #[.agg #[.int .i64 4, .string x, .int .i64 0]] w fun e w' => e = .returned (.tuple #[.string (tellT 4 0 x), .int .i64 0]) ∧ Below w.heap.size w w' := by
 have ht := jD (show tellT 4 0 x = ((⟨#[73, 84, 70]⟩ : ByteArray).extract 0 1 ++ leadAt 4) ++ x by unfold tellT; rw [← mark_cut 0 (by omega)])
 have hz := tell_sum 0 4 (by omega) (by omega) x hs
 have a1 := fun W => run_string_add_sum (P := Tryz.prog) W ((⟨#[73, 84, 70]⟩ : ByteArray).extract 0 1) (leadAt 4) hz.1
 have a2 := fun W => run_string_add_sum (P := Tryz.prog) W ((⟨#[73, 84, 70]⟩ : ByteArray).extract 0 1 ++ leadAt 4) x hz.2
 have d5 : decide (60 < (x.size : Int)) = false := decide_eq_false (by omega)
 have hc := hL.cell 4 (by omega)
 have hroom := hL.room
 have hroom' : 0 ≠ w.heap.size := by omega
 have g1 : IntKind.i64.wrap 1 = 1 := rfl
 clear hL hz
 go_enter Tryz.func13, Tryz.ntmps13
 go_wp2
 go_quiet (fail)
 go_wp2
 go_ret2
 exact ⟨by rw [ht.out]; rfl, below_drewN ((Below.refl _ _).alloc (nL _) _) nq⟩
set_option maxHeartbeats 1000000 in
theorem tell_4_1 (x : ByteArray) (w : World) (hL : Leads w) (hs : x.size ≤ 60) (e1 : x.toList.isEmpty = false) :
  Calls Tryz.prog 13 #[.agg #[.int .i64 4, .string x, .int .i64 1]] w fun e w' => e = .returned (.tuple #[.string (tellT 4 1 x), .int .i64 0]) ∧ Below w.heap.size w w' := by
 have ht := jD (show tellT 4 1 x = ((⟨#[73, 84, 70]⟩ : ByteArray).extract 1 2 ++ leadAt 4) ++ x by unfold tellT; rw [← mark_cut 1 (by omega)])
 have hz := tell_sum 1 4 (by omega) (by omega) x hs
 have a1 := fun W => run_string_add_sum (P := Tryz.prog) W ((⟨#[73, 84, 70]⟩ : ByteArray).extract 1 2) (leadAt 4) hz.1
 have a2 := fun W => run_string_add_sum (P := Tryz.prog) W ((⟨#[73, 84, 70]⟩ : ByteArray).extract 1 2 ++ leadAt 4) x hz.2
 have d5 : decide (60 < (x.size : Int)) = false := decide_eq_false (by omega)
 have hc := hL.cell 4 (by omega)
 have hroom := hL.room
 have hroom' : 0 ≠ w.heap.size := by omega
 have g1 : IntKind.i64.wrap 2 = 2 := rfl
 clear hL hz
 go_enter Tryz.func13, Tryz.ntmps13
 go_wp2
 go_quiet (fail)
 go_wp2
 go_ret2
 exact ⟨by rw [ht.out]; rfl, below_drewN ((Below.refl _ _).alloc (nL _) _) nq⟩
set_option maxHeartbeats 1000000 in
theorem tell_4_2 (x : ByteArray) (w : World) (hL : Leads w) (hs : x.size ≤ 60) (e1 : x.toList.isEmpty = false) :
  Calls Tryz.prog 13 #[.agg #[.int .i64 4, .string x, .int .i64 2]] w fun e w' => e = .returned (.tuple #[.string (tellT 4 2 x), .int .i64 0]) ∧ Below w.heap.size w w' := by
 have ht := jD (show tellT 4 2 x = ((⟨#[73, 84, 70]⟩ : ByteArray).extract 2 3 ++ leadAt 4) ++ x by unfold tellT; rw [← mark_cut 2 (by omega)])
 have hz := tell_sum 2 4 (by omega) (by omega) x hs
 have a1 := fun W => run_string_add_sum (P := Tryz.prog) W ((⟨#[73, 84, 70]⟩ : ByteArray).extract 2 3) (leadAt 4) hz.1
 have a2 := fun W => run_string_add_sum (P := Tryz.prog) W ((⟨#[73, 84, 70]⟩ : ByteArray).extract 2 3 ++ leadAt 4) x hz.2
 have d5 : decide (60 < (x.size : Int)) = false := decide_eq_false (by omega)
 have hc := hL.cell 4 (by omega)
 have hroom := hL.room
 have hroom' : 0 ≠ w.heap.size := by omega
 have g1 : IntKind.i64.wrap 3 = 3 := rfl
 clear hL hz
 go_enter Tryz.func13, Tryz.ntmps13
 go_wp2
 go_quiet (fail)
 go_wp2
 go_ret2
 exact ⟨by rw [ht.out]; rfl, below_drewN ((Below.refl _ _).alloc (nL _) _) nq⟩
theorem tell_ok (k st : Nat) (x : ByteArray) (w : World) (hL : Leads w) (h : ¬ ((k : Int) < 1 ∨ 4 < (k : Int) ∨ (st : Int) < 0 ∨ 2 < (st : Int))) (h2 : ¬ ((decide ((k : Int) = 2 ∨ (k : Int) = 4) == x.toList.isEmpty) = true ∨ 60 < x.size)) :
  Calls Tryz.prog 13 #[.agg #[.int .i64 k, .string x, .int .i64 st]] w fun e w' => e = .returned (.tuple #[.string (tellT k st x), .int .i64 0]) ∧ Below w.heap.size w w' := by
 have hs : x.size ≤ 60 := by
  by_cases hl : 60 < x.size
  ·exact absurd (.inr hl) h2
  ·omega
 have hq : (decide ((k : Int) = 2 ∨ (k : Int) = 4) == x.toList.isEmpty) = false := by
  cases hq : (decide ((k : Int) = 2 ∨ (k : Int) = 4) == x.toList.isEmpty)
  ·rfl
  ·exact absurd (.inl hq) h2
 have hst : st = 0 ∨ st = 1 ∨ st = 2 := by omega
 have hk : k = 1 ∨ k = 2 ∨ k = 3 ∨ k = 4 := by omega
 clear h h2
 rcases hk with rfl | rfl | rfl | rfl
 ·have e1 : x.toList.isEmpty = true := by simpa using hq
  rcases hst with rfl | rfl | rfl
  ·exact tell_1_0 x w hL hs e1
  ·exact tell_1_1 x w hL hs e1
  ·exact tell_1_2 x w hL hs e1
 ·have e1 : x.toList.isEmpty = false := by simpa using hq
  rcases hst with rfl | rfl | rfl
  ·exact tell_2_0 x w hL hs e1
  ·exact tell_2_1 x w hL hs e1
  ·exact tell_2_2 x w hL hs e1
 ·have e1 : x.toList.isEmpty = true := by simpa using hq
  rcases hst with rfl | rfl | rfl
  ·exact tell_3_0 x w hL hs e1
  ·exact tell_3_1 x w hL hs e1
  ·exact tell_3_2 x w hL hs e1
 ·have e1 : x.toList.isEmpty = false := by simpa using hq
  rcases hst with rfl | rfl | rfl
  ·exact tell_4_0 x w hL hs e1
  ·exact tell_4_1 x w hL hs e1
  ·exact tell_4_2 x w hL hs e1
end Go.Proofs.YtpbaobmegomfpabGreatDoor
