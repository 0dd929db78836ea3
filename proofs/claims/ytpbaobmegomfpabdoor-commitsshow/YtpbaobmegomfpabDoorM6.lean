/-
  Texts of the proof, one behind the other: OrdersZ, Grid, Play, Said, EqP, Laid, LaidWords, HouseM, HouseI.
-/
import Derived.OrdersHeld
import Derived.Deep.RegionHeld
import Derived.Test.YtpbaobmegomfpabDoorM1
import Derived.Test.YtpbaobmegomfpabDoorM4
import Derived.Test.YtpbaobmegomfpabDoorM5
import Derived.Deep.AppendLies
import Derived.Test.YtpbaobmegomfpabDoorRows
import Derived.Deep.QuietTactic
import Derived.BigQuiet
import Derived.IntWalk
import Derived.WalkSmall
import Derived.WalkKit
import Derived.ProofKit
import Derived.Lib.LaidTab
import Derived.Test.YtpbaobmegomfpabDoorM3
/-
  A region that draws its order and whose last operation writes a cell that the region loads: a load may be taken first if the last operation waits for it, and what is known of the world is asked anew behind every operation but the last.
-/
namespace Go.Proofs.YtpbaobmegomfpabDoor
open Go
set_option linter.unusedVariables false

section
variable {P : Program} {ops : Array Oper} {Q : Exit → Go.Act → World → Prop} {md : Region.Mode} {S : World → Prop} {z : Nat}

/-- whatever order is picked; S holds behind every operation but number z -/
def wpAnyZ (P : Program) (md : Region.Mode) (ops : Array Oper) (Q : Exit → Go.Act → World → Prop) (S : World → Prop) (z : Nat) : Nat → Array Bool → Go.Act → World → Prop
  | 0, listed, a, w => Region.ready md ops listed = [] ∧ Q .normal a w
  | fuel + 1, listed, a, w =>
    (Region.ready md ops listed = [] → Q .normal a w) ∧
    ∀ i ∈ Region.ready md ops listed, wpOp P ops Q i (fun a' w' => (i ≠ z → S w') ∧ wpAnyZ P md ops Q S z fuel (listed.setIfInBounds i true) a' w') a w

theorem wpAny_of_z : ∀ (fuel : Nat) (listed : Array Bool) (a : Go.Act) (w : World), wpAnyZ P md ops Q S z fuel listed a w → wpAny P md ops Q fuel listed a w
  | 0, _, _, _, h => h
  | fuel + 1, _, _, _, h => ⟨h.1, fun i hi => wpOp_mono (fun a' w' h' => wpAny_of_z fuel _ a' w' h'.2) (h.2 i hi)⟩

/-- does operation z wait for operation i? -/
def waitsFor (md : Region.Mode) (ops : Array Oper) (z i : Nat) : Bool := match ops[z]? with
  | some oz => oz.after.any fun e => Region.binds md e && e.on == i
  | none => false

theorem wpAnyZ_first {i : Nat} {oi : Oper} {v : Value} (hi : ops[i]? = some oi) (hsel : ∀ (j : Nat) (o : Oper) cs b, ops[j]? = some o → o.op ≠ .select cs b) (hz : waitsFor md ops z i = true) (hiz : i ≠ z)
    (hQ : ∀ c a w, Q (.panic c) (a.put oi.dst v) w → Q (.panic c) a w) :
    ∀ (fuel : Nat) (listed : Array Bool) (a : Go.Act) (w : World),
      (∀ j oj, ops[j]? = some oj → j ≠ i → listed.getD j true = false → (∀ e ∈ oj.after, Region.binds md e = true → e.on ≠ i) → oi.apart ops oj = true) →
      i ∈ Region.ready md ops listed → YieldsIf P ops S oi v a → S w →
      wpAnyZ P md ops Q S z fuel (listed.setIfInBounds i true) (a.put oi.dst v) w → wpAnyZ P md ops Q S z (fuel + 1) listed a w := by
  intro fuel
  induction fuel with
  | zero =>
    intro listed a w _ hr hy hS H
    refine ⟨fun h => (by rw [h] at hr; cases hr), fun j hj => ?_⟩
    by_cases hji : j = i
    · subst hji; exact hy.wpOp hi hS ⟨fun _ => hS, H⟩
    · have := ready_mono hj hji
      rw [H.1] at this
      cases this
  | succ fuel ih =>
    intro listed a w hfree hr hy hS H
    refine ⟨fun h => (by rw [h] at hr; cases hr), fun j hj => ?_⟩
    by_cases hji : j = i
    · subst hji; exact hy.wpOp hi hS ⟨fun _ => hS, H⟩
    · have h1 := H.2 j (ready_mono hj hji)
      obtain ⟨hjun, oj, hoj, hall⟩ := mem_ready.1 hj
      have hnot : ∀ e ∈ oj.after, Region.binds md e = true → e.on ≠ i := fun e he hb heq => by
        have h1 := hall e he hb
        have h0 := (mem_ready.1 hr).1
        rw [heq] at h1
        rcases Nat.lt_or_ge i listed.size with h' | h'
        · simp [h'] at h0 h1; rw [h0] at h1; cases h1
        · simp [Array.getElem?_eq_none h'] at h1
      have hjz : j ≠ z := fun e => by
        unfold waitsFor at hz
        rw [← e, hoj] at hz
        simp only [Array.any_eq_true'] at hz
        obtain ⟨x, hx, hb⟩ := hz
        simp only [Bool.and_eq_true, beq_iff_eq] at hb
        exact hnot x hx hb.1 hb.2
      have h2 := wpOp_putIf hoj (hfree j oj hoj hji hjun hnot) (fun cs b => hsel i oi cs b hi) (fun cs b => hsel j oj cs b hoj) hQ hy h1
      have hfree' : ∀ k ok, ops[k]? = some ok → k ≠ i → (listed.setIfInBounds j true).getD k true = false →
          (∀ e ∈ ok.after, Region.binds md e = true → e.on ≠ i) → oi.apart ops ok = true := fun k ok hk hki hun hno => by
        refine hfree k ok hk hki ?_ hno
        by_cases hjk : j = k
        · subst hjk; exact hjun
        · rw [getD_set_ne true hjk] at hun; exact hun
      refine wpOp_mono (fun a' w' h3 => ⟨h3.2.1, ih (listed.setIfInBounds j true) a' w' hfree' (ready_mono hr (Ne.symm hji)) h3.1 (h3.2.1 hjz) ?_⟩) h2
      rw [Array.setIfInBounds_comm _ _ hji]
      exact h3.2.2

/-- take number i first -/
theorem wpAnyZ_take {i : Nat} {oi : Oper} {v : Value} {fuel : Nat} {listed : Array Bool} {a : Go.Act} {w : World} (hi : ops[i]? = some oi)
    (hs : Region.noSelect ops = true) (hf : Region.free md ops listed i = true) (hr : (Region.ready md ops listed).contains i = true) (hz : (waitsFor md ops z i && i != z) = true)
    (hQ : ∀ c a w, Q (.panic c) (a.put oi.dst v) w → Q (.panic c) a w) (hy : YieldsIf P ops S oi v a) (hS : S w)
    (h : wpAnyZ P md ops Q S z fuel (listed.setIfInBounds i true) (a.put oi.dst v) w) : wpAnyZ P md ops Q S z (fuel + 1) listed a w :=
  wpAnyZ_first hi (Region.noSelect_spec hs) (by simp only [Bool.and_eq_true] at hz; exact hz.1) (by simp only [Bool.and_eq_true, bne_iff_ne] at hz; exact hz.2) hQ fuel listed a w (Region.free_spec hi hf) (by simpa using hr) hy hS h
/-- number i alone may come up -/
theorem wpAnyZ_one {i : Nat} {o : Oper} {fuel : Nat} {listed : Array Bool} {a : Go.Act} {w : World} (ho : ops[i]? = some o) (hg : o.guard = none) (hr : Region.ready md ops listed = [i])
    (h : ∀ K' : Go.Act → World → Prop, Shut (∀ a w, S w → wpAnyZ P md ops Q S z fuel (listed.setIfInBounds i true) a w → K' a w) → Oper.wp P o a w K' Q) : wpAnyZ P md ops Q S z (fuel + 1) listed a w := by
  refine ⟨fun h0 => (by rw [hr] at h0; cases h0), fun j hj => ?_⟩
  rw [hr] at hj
  obtain rfl := List.mem_singleton.1 hj
  refine wpOp_step ho fun K' hK => ?_
  rw [if_pos (by simp [Region.wanted, hg])]
  exact h K' (fun a w hS hW => hK a w ⟨fun _ => hS, hW⟩)
/-- the last one -/
theorem wpAnyZ_last {o : Oper} {fuel : Nat} {listed : Array Bool} {a : Go.Act} {w : World} (ho : ops[z]? = some o) (hg : o.guard = none) (hr : Region.ready md ops listed = [z]) (hr' : Region.ready md ops (listed.setIfInBounds z true) = [])
    (h : ∀ K' : Go.Act → World → Prop, Shut (∀ a w, Q .normal a w → K' a w) → Oper.wp P o a w K' Q) : wpAnyZ P md ops Q S z (fuel + 1) listed a w := by
  refine ⟨fun h0 => (by rw [hr] at h0; cases h0), fun j hj => ?_⟩
  rw [hr] at hj
  obtain rfl := List.mem_singleton.1 hj
  refine wpOp_step ho fun K' hK => ?_
  rw [if_pos (by simp [Region.wanted, hg])]
  refine h K' (fun a w hq => hK a w ⟨fun hne => absurd rfl hne, ?_⟩)
  cases fuel with
  | zero => exact ⟨hr', hq⟩
  | succ n => exact ⟨fun _ => hq, by rw [hr']; simp⟩
/-- the beginning -/
theorem wp_region_z (z : Nat) (S : World → Prop) {id : Nat} {a : Go.Act} {w : World} (hm : P.follows .mixedOrders = true) (hS : S w.drew)
    (h : S w.drew → wpAnyZ P .any ops Q S z ops.size (Array.replicate ops.size false) a w.drew) : (Code.region id ops true).wp P Q a w :=
  wp_region_any hm (wpAny_of_z _ _ _ _ (h hS))
end
end Go.Proofs.YtpbaobmegomfpabDoor

/-
  A region that draws its order, with a chain of calls and two variables that it makes (at whatever time): what is known behind the chain holds whatever the order.
-/
namespace Go.Proofs.YtpbaobmegomfpabDoor
open Go Go.RowKit
set_option linter.unusedVariables false

def pt (b : Nat) : Value := .pointer (some ⟨b, 0, none⟩)
/-- a frame with the two variables, as far as they are made -/
def fr (dp dq : Nat) (a : Go.Act) : Option Nat → Option Nat → Go.Act
  | none, none => a
  | some b, none => a.put (some dp) (pt b)
  | none, some c => a.put (some dq) (pt c)
  | some b, some c => (a.put (some dp) (pt b)).put (some dq) (pt c)
def zs (lo : Nat) (t : TypeId) (zc : Array Value) (x : Option Nat) (w : World) : Prop := ∀ b, x = some b → lo ≤ b ∧ w.heap[b]? = some (.cells zc t (0, 0))
theorem zs_none (lo : Nat) (t : TypeId) (zc : Array Value) (w : World) : zs lo t zc none w := fun _ h => by cases h
theorem zs_alloc {lo : Nat} {t : TypeId} {zc : Array Value} {x : Option Nat} {w : World} (h : zs lo t zc x w) (o : Obj) : zs lo t zc x (w.alloc o) := fun b hb => by
  have := h b hb
  rw [Below.heap_alloc _ _ _ (Array.getElem?_eq_some_iff.1 this.2).1]; exact this
theorem zs_new {lo : Nat} (t : TypeId) (zc : Array Value) (w : World) (h : lo ≤ w.heap.size) : zs lo t zc (some w.heap.size) (w.alloc (.cells zc t)) := fun b hb => by
  injection hb with hb; subst hb; exact ⟨h, heap_alloc_new w _⟩
theorem zs_row {lo : Nat} {t : TypeId} {zc : Array Value} {b : Nat} {w : World} (h : zs lo t zc (some b) w) : RowTo w b t zc.size zc.toList := ⟨zc, (h b rfl).2, rfl, by rw [List.take_of_length_le (by simp)]⟩
theorem zs_below {lo : Nat} {t : TypeId} {zc : Array Value} {x : Option Nat} {w w' : World} (h : zs lo t zc x w) (hb : Below w.heap.size w w') : zs lo t zc x w' := fun b e => by
  have := h b e
  exact ⟨this.1, (hb.block b (Array.getElem?_eq_some_iff.1 this.2).1).trans this.2⟩
/-- where only a block of another type has turned -/
theorem zs_but {lo : Nat} {t u S n : Nat} {zc : Array Value} {x : Option Nat} {w w' : World} {xs : List Value} (h : zs lo t zc x w) (hS : RowTo w S u n xs) (hu : u ≠ t) (hk : ∀ b, b < w.heap.size → b ≠ S → w'.heap[b]? = w.heap[b]?) : zs lo t zc x w' := fun b e => by
  have := h b e
  refine ⟨this.1, (hk b (Array.getElem?_eq_some_iff.1 this.2).1 fun hbS => ?_).trans this.2⟩
  obtain ⟨cur, hh, _⟩ := hS
  rw [hbS, hh] at this
  have e := this.2
  injection e with e
  injection e with _ e _
  exact hu e
theorem pc {a : Go.Act} {d e : Nat} (h : d ≠ e) (v u : Value) : (a.put (some d) v).put (some e) u = (a.put (some e) u).put (some d) v := Go.Act.put_comm a v u (fun x hx hy => by injection hx with hx; injection hy with hy; exact h (hx.trans hy.symm))
theorem fr_put {dp dq d : Nat} (h1 : d ≠ dp) (h2 : d ≠ dq) (a : Go.Act) (x y : Option Nat) (v : Value) : (fr dp dq a x y).put (some d) v = fr dp dq (a.put (some d) v) x y := by
  cases x <;> cases y <;> simp only [fr]
  · rw [pc (Ne.symm h2)]
  · rw [pc (Ne.symm h1)]
  · rw [pc (Ne.symm h2), pc (Ne.symm h1)]
theorem eval_put_ne {a : Go.Act} {d t : Nat} (h : d ≠ t) (v : Value) : (a.put (some d) v).eval (.tmp t) = a.eval (.tmp t) := Go.Act.eval_put fun x hx e => by injection hx with hx; injection e with e; exact h (hx.trans e.symm)
theorem eval_put_self {a : Go.Act} {d : Nat} (h : d < a.tmps.size) (v : Value) : (a.put (some d) v).eval (.tmp d) = v := by
  show (a.tmps.setIfInBounds d v).getD d undef = v
  simp [h]
theorem size_putd {a : Go.Act} {d : Nat} (v : Value) : (a.put (some d) v).tmps.size = a.tmps.size := by show (a.tmps.setIfInBounds d v).size = _; simp
theorem fr_eval {dp dq t : Nat} (h1 : dp ≠ t) (h2 : dq ≠ t) (a : Go.Act) (x y : Option Nat) : (fr dp dq a x y).eval (.tmp t) = a.eval (.tmp t) := by
  cases x <;> cases y <;> simp only [fr] <;> simp only [eval_put_ne h1, eval_put_ne h2]

section
variable {P : Program} {ops : Array Oper} {Q : Exit → Go.Act → World → Prop} {md : Region.Mode} {S : World → Prop} {z : Nat}
theorem wpOp_wp {i : Nat} {o : Oper} {K : Go.Act → World → Prop} {a : Go.Act} {w : World} (ho : ops[i]? = some o) (hg : o.guard = none) (h : o.wp P a w K Q) : wpOp P ops Q i K a w := by
  unfold wpOp
  simp only [ho]
  rw [if_pos (by simp [Region.wanted, hg])]
  exact .inl h
/-- a call of a Go function -/
theorem wp_call {o : Oper} {a : Go.Act} {w : World} {K : Go.Act → World → Prop} {g : FuncId} {args : Array Value} (hr : (execOp a.eval o).run P w = .ok (.enter g args) w)
    (h : Calls P g args w fun e w' => ∃ v, e = .returned v ∧ K (a.put o.dst v) w') : o.wp P a w K Q := by
  unfold Oper.wp
  rw [hr]
  refine Calls.mono h fun e w' he => ?_
  obtain ⟨v, rfl, hk⟩ := he
  exact hk
theorem wp_val {o : Oper} {a : Go.Act} {w w' : World} {K : Go.Act → World → Prop} {v : Value} (hr : (execOp a.eval o).run P w = .ok (.value v) w') (h : K (a.put o.dst v) w') : o.wp P a w K Q := by
  unfold Oper.wp; rw [hr]; exact h

/-- what is asked of the region: its calls (number c is operation cop c, which lays its result in slot dst c), its two variables (operations p, q; slots dp, dq) -/
structure GridS (P : Program) (md : Region.Mode) (ops : Array Oper) (C : Nat) (cop dst : Nat → Nat) (p q dp dq : Nat) (tp tq : TypeId) (zp zq : Array Value) (Lst : Nat → Bool → Bool → Array Bool) (Lst' : Bool → Bool → Array Bool) : Prop where
  op : ∃ o, ops[p]? = some o ∧ o.guard = none ∧ o.dst = some dp ∧ ∀ (ev : Operand → Value) w, (execOp ev o).run P w = .ok (.value (pt w.heap.size)) (w.alloc (.cells zp tp))
  oq : ∃ o, ops[q]? = some o ∧ o.guard = none ∧ o.dst = some dq ∧ ∀ (ev : Operand → Value) w, (execOp ev o).run P w = .ok (.value (pt w.heap.size)) (w.alloc (.cells zq tq))
  ne : dp ≠ dq
  dn : ∀ c, c < C → dst c ≠ dp ∧ dst c ≠ dq
  ready : ∀ c x y, c < C → Region.ready md ops (Lst c x y) = cop c :: ((if x then [] else [p]) ++ (if y then [] else [q]))
  ready' : ∀ x y, (x && y) = false → Region.ready md ops (Lst' x y) = (if x then [] else [p]) ++ (if y then [] else [q])
  setc : ∀ c x y, c < C → (Lst c x y).setIfInBounds (cop c) true = Lst (c + 1) x y
  setp : ∀ c y, c < C → (Lst c false y).setIfInBounds p true = Lst c true y
  setq : ∀ c x, c < C → (Lst c x false).setIfInBounds q true = Lst c x true
  setp' : ∀ y, (Lst' false y).setIfInBounds p true = Lst' true y
  setq' : ∀ x, (Lst' x false).setIfInBounds q true = Lst' x true
variable {C : Nat} {cop dst : Nat → Nat} {p q dp dq : Nat} {tp tq : TypeId} {zp zq : Array Value} {Lst : Nat → Bool → Bool → Array Bool} {Lst' : Bool → Bool → Array Bool}
theorem grid (G : GridS P md ops C cop dst p q dp dq tp tq zp zq Lst Lst') (J : Nat → Go.Act → World → Prop) (J' : Go.Act → World → Prop) (n0 k0 lo : Nat)
    (hJ : ∀ c a w o, J c a w → J c a (w.alloc o)) (hJ' : ∀ a w o, J' a w → J' a (w.alloc o)) (hS : ∀ c a w, J c a w → S w) (hS' : ∀ a w, J' a w → S w) (hl : ∀ c a w, J c a w → lo ≤ w.heap.size) (hl' : ∀ a w, J' a w → lo ≤ w.heap.size)
    (hcall : ∀ c a w x y, c < C → J c a w → zs lo tp zp x w → zs lo tq zq y w → wpOp P ops Q (cop c) (fun a' w' => ∃ v, a' = (fr dp dq a x y).put (some (dst c)) v ∧ J (c + 1) (a.put (some (dst c)) v) w' ∧ zs lo tp zp x w' ∧ zs lo tq zq y w') (fr dp dq a x y) w)
    (htake : ∀ a w x y n, J C a w → zs lo tp zp x w → zs lo tq zq y w → (∀ a', J' a' w → wpAnyZ P md ops Q S z n (Lst' x.isSome y.isSome) (fr dp dq a' x y) w) → wpAnyZ P md ops Q S z (n + k0) (Lst C x.isSome y.isSome) (fr dp dq a x y) w)
    (hfin : ∀ a w b c, J' a w → zs lo tp zp (some b) w → zs lo tq zq (some c) w → wpAnyZ P md ops Q S z n0 (Lst' true true) (fr dp dq a (some b) (some c)) w) :
    ∀ a w, J 0 a w → wpAnyZ P md ops Q S z (n0 + 2 + k0 + C) (Lst 0 false false) a w := by
  obtain ⟨o1, p1, p2, p3, p4⟩ := G.op
  obtain ⟨o2, q1, q2, q3, q4⟩ := G.oq
  have ap : ∀ (a : Go.Act) (y : Option Nat) (w : World) (K : Go.Act → World → Prop), K (fr dp dq a (some w.heap.size) y) (w.alloc (.cells zp tp)) → wpOp P ops Q p K (fr dp dq a none y) w := fun a y w K h => by
    refine wpOp_wp p1 p2 (wp_val (p4 _ w) ?_)
    rw [p3]
    cases y with
    | none => exact h
    | some c =>
      have e : (fr dp dq a none (some c)).put (some dp) (pt w.heap.size) = fr dp dq a (some w.heap.size) (some c) := by simp only [fr]; rw [pc (Ne.symm G.ne)]
      rw [e]; exact h
  have aq : ∀ (a : Go.Act) (x : Option Nat) (w : World) (K : Go.Act → World → Prop), K (fr dp dq a x (some w.heap.size)) (w.alloc (.cells zq tq)) → wpOp P ops Q q K (fr dp dq a x none) w := fun a x w K h => by
    refine wpOp_wp q1 q2 (wp_val (q4 _ w) ?_)
    rw [q3]
    cases x <;> exact h
  -- behind the chain
  have last : ∀ (x y : Option Nat) (a : Go.Act) (w : World), J' a w → zs lo tp zp x w → zs lo tq zq y w → wpAnyZ P md ops Q S z (n0 + (!x.isSome).toNat + (!y.isSome).toNat) (Lst' x.isSome y.isSome) (fr dp dq a x y) w := by
    have tt : ∀ b c a w, J' a w → zs lo tp zp (some b) w → zs lo tq zq (some c) w → wpAnyZ P md ops Q S z n0 (Lst' true true) (fr dp dq a (some b) (some c)) w := fun b c a w => hfin a w b c
    have ft : ∀ c a w, J' a w → zs lo tq zq (some c) w → wpAnyZ P md ops Q S z (n0 + 1) (Lst' false true) (fr dp dq a none (some c)) w := fun c a w hj hy => by
      refine ⟨fun h0 => (by rw [G.ready' false true rfl] at h0; cases h0), fun i hi => ?_⟩
      rw [G.ready' false true rfl] at hi
      obtain rfl : i = p := by simpa using hi
      refine ap a _ w _ ⟨fun _ => hS' _ _ (hJ' _ _ _ hj), ?_⟩
      rw [G.setp']
      exact tt _ _ _ _ (hJ' _ _ _ hj) (zs_new _ _ _ (hl' _ _ hj)) (zs_alloc hy _)
    have tf : ∀ b a w, J' a w → zs lo tp zp (some b) w → wpAnyZ P md ops Q S z (n0 + 1) (Lst' true false) (fr dp dq a (some b) none) w := fun b a w hj hx => by
      refine ⟨fun h0 => (by rw [G.ready' true false rfl] at h0; cases h0), fun i hi => ?_⟩
      rw [G.ready' true false rfl] at hi
      obtain rfl : i = q := by simpa using hi
      refine aq a _ w _ ⟨fun _ => hS' _ _ (hJ' _ _ _ hj), ?_⟩
      rw [G.setq']
      exact tt _ _ _ _ (hJ' _ _ _ hj) (zs_alloc hx _) (zs_new _ _ _ (hl' _ _ hj))
    intro x y a w hj hx hy
    cases x with
    | some b =>
      cases y with
      | some c => exact tt b c a w hj hx hy
      | none => exact tf b a w hj hx
    | none =>
      cases y with
      | some c => exact ft c a w hj hy
      | none =>
        refine ⟨fun h0 => (by rw [show Lst' (none : Option Nat).isSome (none : Option Nat).isSome = Lst' false false from rfl, G.ready' false false rfl] at h0; cases h0), fun i hi => ?_⟩
        rw [show Lst' (none : Option Nat).isSome (none : Option Nat).isSome = Lst' false false from rfl, G.ready' false false rfl] at hi
        have hi2 : i = p ∨ i = q := by simpa using hi
        rcases hi2 with rfl | rfl
        · refine ap a _ w _ ⟨fun _ => hS' _ _ (hJ' _ _ _ hj), ?_⟩
          show wpAnyZ P md ops Q S z (n0 + 1) ((Lst' false false).setIfInBounds i true) _ _
          rw [G.setp']
          exact tf _ _ _ (hJ' _ _ _ hj) (zs_new _ _ _ (hl' _ _ hj))
        · refine aq a _ w _ ⟨fun _ => hS' _ _ (hJ' _ _ _ hj), ?_⟩
          show wpAnyZ P md ops Q S z (n0 + 1) ((Lst' false false).setIfInBounds i true) _ _
          rw [G.setq']
          exact ft _ _ _ (hJ' _ _ _ hj) (zs_new _ _ _ (hl' _ _ hj))
  -- along the chain
  have main : ∀ (m c : Nat) (x y : Option Nat) (a : Go.Act) (w : World), c ≤ C → m = (C - c) + (!x.isSome).toNat + (!y.isSome).toNat → J c a w → zs lo tp zp x w → zs lo tq zq y w → wpAnyZ P md ops Q S z (n0 + k0 + m) (Lst c x.isSome y.isSome) (fr dp dq a x y) w := by
    intro m
    induction m with
    | zero =>
      intro c x y a w hc hm hj hx hy
      have hcC : c = C := by omega
      subst hcC
      have hxs : (!x.isSome).toNat = 0 := by omega
      have hys : (!y.isSome).toNat = 0 := by omega
      have := htake a w x y n0 hj hx hy (fun a' hj' => by have := last x y a' w hj' hx hy; rw [hxs, hys] at this; exact this)
      exact this
    | succ m ih =>
      intro c x y a w hc hm hj hx hy
      by_cases hcC : c = C
      · subst hcC
        have := htake a w x y (n0 + (!x.isSome).toNat + (!y.isSome).toNat) hj hx hy (fun a' hj' => last x y a' w hj' hx hy)
        rw [show n0 + k0 + (m + 1) = n0 + (!x.isSome).toNat + (!y.isSome).toNat + k0 by omega]
        exact this
      · have hlt : c < C := by omega
        rw [show n0 + k0 + (m + 1) = (n0 + k0 + m) + 1 by omega]
        refine ⟨fun h0 => (by rw [G.ready c _ _ hlt] at h0; cases h0), fun i hi => ?_⟩
        rw [G.ready c _ _ hlt] at hi
        rcases List.mem_cons.1 hi with rfl | hi
        · refine wpOp_mono (fun a' w' h => ?_) (hcall c a w x y hlt hj hx hy)
          obtain ⟨v, rfl, h1, h2, h3⟩ := h
          refine ⟨fun _ => hS _ _ _ h1, ?_⟩
          rw [G.setc c _ _ hlt, fr_put (G.dn c hlt).1 (G.dn c hlt).2]
          exact ih (c + 1) x y _ w' (by omega) (by omega) h1 h2 h3
        · rcases List.mem_append.1 hi with hi | hi
          · cases x with
            | some b => simp at hi
            | none =>
              obtain rfl : i = p := by simpa using hi
              refine ap a _ w _ ⟨fun _ => hS _ _ _ (hJ _ _ _ _ hj), ?_⟩
              rw [show Lst c (none : Option Nat).isSome y.isSome = Lst c false y.isSome from rfl, G.setp c _ hlt]
              exact ih c (some w.heap.size) y a _ hc (by simp at hm ⊢; omega) (hJ _ _ _ _ hj) (zs_new _ _ _ (hl _ _ _ hj)) (zs_alloc hy _)
          · cases y with
            | some b => simp at hi
            | none =>
              obtain rfl : i = q := by simpa using hi
              refine aq a _ w _ ⟨fun _ => hS _ _ _ (hJ _ _ _ _ hj), ?_⟩
              rw [show Lst c x.isSome (none : Option Nat).isSome = Lst c x.isSome false from rfl, G.setq c _ hlt]
              exact ih c x (some w.heap.size) a _ hc (by simp at hm ⊢; omega) (hJ _ _ _ _ hj) (zs_alloc hx _) (zs_new _ _ _ (hl _ _ _ hj))
  intro a w hj
  have := main (C + 1 + 1) 0 none none a w (Nat.zero_le _) (by simp) hj (zs_none _ _ _ _) (zs_none _ _ _ _)
  rw [show n0 + 2 + k0 + C = n0 + k0 + (C + 1 + 1) by omega]
  exact this
/-- the same, where what holds speaks of the frame at the beginning -/
theorem grid0 {A0 : Go.Act} {w0 : World} (G : GridS P md ops C cop dst p q dp dq tp tq zp zq Lst Lst') (J : Go.Act → Nat → Go.Act → World → Prop) (J' : Go.Act → Go.Act → World → Prop) (n0 k0 lo : Nat)
    (hJ : ∀ c a w o, J A0 c a w → J A0 c a (w.alloc o)) (hJ' : ∀ a w o, J' A0 a w → J' A0 a (w.alloc o)) (hS : ∀ c a w, J A0 c a w → S w) (hS' : ∀ a w, J' A0 a w → S w) (hl : ∀ c a w, J A0 c a w → lo ≤ w.heap.size) (hl' : ∀ a w, J' A0 a w → lo ≤ w.heap.size)
    (hcall : ∀ c a w x y, c < C → J A0 c a w → zs lo tp zp x w → zs lo tq zq y w → wpOp P ops Q (cop c) (fun a' w' => ∃ v, a' = (fr dp dq a x y).put (some (dst c)) v ∧ J A0 (c + 1) (a.put (some (dst c)) v) w' ∧ zs lo tp zp x w' ∧ zs lo tq zq y w') (fr dp dq a x y) w)
    (htake : ∀ a w x y n, J A0 C a w → zs lo tp zp x w → zs lo tq zq y w → (∀ a', J' A0 a' w → wpAnyZ P md ops Q S z n (Lst' x.isSome y.isSome) (fr dp dq a' x y) w) → wpAnyZ P md ops Q S z (n + k0) (Lst C x.isSome y.isSome) (fr dp dq a x y) w)
    (hfin : ∀ a w b c, J' A0 a w → zs lo tp zp (some b) w → zs lo tq zq (some c) w → wpAnyZ P md ops Q S z n0 (Lst' true true) (fr dp dq a (some b) (some c)) w)
    (h0 : J A0 0 A0 w0) : wpAnyZ P md ops Q S z (n0 + 2 + k0 + C) (Lst 0 false false) A0 w0 := grid G (J A0) (J' A0) n0 k0 lo hJ hJ' hS hS' hl hl' hcall htake hfin A0 w0 h0
end
end Go.Proofs.YtpbaobmegomfpabDoor

/-
  tillermankeep.played: statements in some sessions.
-/
namespace Go.Proofs.YtpbaobmegomfpabDoor
open Go.RowKit
set_option linter.unusedVariables false
set_option linter.unusedSimpArgs false
set_option maxRecDepth 100000

theorem cell_sty {w : World} {p q : Addr} {u v : Value} (hp : p.block ≠ q.block) (h : w.cell? q = some v) : (w.setCell p u).cell? q = some v := (World.cell?_setCell_other _ _ _ _ (fun e => hp (by rw [e]))).trans h
theorem ans_row : (Tryd.prog.info? 30).map (fun i => (i.zero, i.size, i.bytes)) = some (some (.agg #[.int .i64 0, .string ⟨#[]⟩, .int .i64 0]), 3, 32) := by kernel_rfl
theorem own_belP {w w' : World} {base e n m : Nat} {v : Value} {xs : List Value} (h : w.ownsRow base e n v m xs) (hb : Below w.heap.size w w') : w'.ownsRow base e n v m xs := by
  obtain ⟨h1, h2 | ⟨g, cap, cur, hv, hg, hh, r⟩⟩ := h
  · exact ⟨h1, .inl h2⟩
  · exact ⟨h1, .inr ⟨g, cap, cur, hv, hg, (hb.block g (Array.getElem?_eq_some_iff.1 hh).1).trans hh, r⟩⟩
theorem own_setP {w : World} {base e n m X j : Nat} {v u : Value} {xs : List Value} (h : w.ownsRow base e n v m xs) (hX : X < base) : (w.setCell ⟨X, j, none⟩ u).ownsRow base e n v m xs := by
  obtain ⟨h1, h2 | ⟨g, cap, cur, hv, hg, hh, r⟩⟩ := h
  · exact ⟨h1, .inl h2⟩
  · exact ⟨h1, .inr ⟨g, cap, cur, hv, hg, (Below.heap_setCell _ _ _ _ (by show g ≠ X; omega)).trans hh, r⟩⟩
theorem WldP.off {w w' : World} {P : Nat → Prop} {R : Nat} {r s : Value} {W : Wd} (h : WldP w P r s W) (h2 : NoTwo w R) (hs : NoSes w R) (hz : w'.heap.size = w.heap.size) (hk : ∀ b, b ≠ R → w'.heap[b]? = w.heap[b]?) : WldP w' P r s W := by
  have hw : Wld w' w'.heap.size r s W := by rw [hz]; exact h.wld.off h2 hs hk
  refine ⟨hw, h.rows, fun hn b off n c e => ⟨(h.ses hn b off n c e).1, fun k j v hk' hj hv => ?_⟩⟩
  obtain ⟨b', off', c', e', hb, hc⟩ := h.wld.sess.cells hn
  have he : b = b' ∧ off = off' := by rw [e] at e'; injection e' with e'; injection e' with e'; injection e' with e1 e2; exact ⟨e1, e2⟩
  obtain ⟨rfl, rfl⟩ := he
  have hne : b ≠ R := by
    rintro rfl
    obtain ⟨v1, v2, v3, v4, q⟩ := hc 0 hn
    obtain ⟨A, c', hv', _⟩ := q.l1.form
    have := q.c1
    rw [hv'] at this
    exact hs _ _ _ _ _ q.c0 this
  rw [World.cell?_of_block (hk b hne)] at hv
  exact (h.ses hn b off n c e).2 k j v hk' hj hv
def zeroW (n : Nat) : Wd := ⟨[], List.replicate n Sess.zero⟩
theorem playM_snoc {n : Nat} {l : List Raw} {r : Raw} {W : Wd} : playM n W (l ++ [r]) = (doR (playM n W l) (pickI r.c n).toNat (reqR r)).1 := by unfold playM; rw [List.foldl_append]; rfl
/-- a new slice of sessions reads as sessions without anything -/
theorem made_sess {w : World} {S n : Nat} (h : RowTo w S 46 (n * 5) (madeCells #[.int .i64 0, .slice none 0 0, .slice none 0 0, .slice none 0 0, .slice none 0 0] (n * 5)).toList) (hn : n ≤ 8) : Sss w w.heap.size (.slice (some ⟨S, 0, none⟩) n n) (List.replicate n Sess.zero) := by
  refine ⟨⟨some ⟨S, 0, none⟩, n, by simp, by simp⟩, by simp; omega, fun hp => ⟨S, 0, n, by simp, h.lt, fun i hi => ?_⟩⟩
  simp only [List.length_replicate] at hi
  have hlen : (madeCells #[Value.int .i64 0, .slice none 0 0, .slice none 0 0, .slice none 0 0, .slice none 0 0] (n * 5)).toList.length = n * 5 := by simp [madeCells]
  have c : ∀ j, j < 5 → w.cell? ⟨S, 0 + i * 5 + j, none⟩ = [Value.int .i64 0, .slice none 0 0, .slice none 0 0, .slice none 0 0, .slice none 0 0][j]? := fun j hj => by
    have hlt : 0 + i * 5 + j < (madeCells #[Value.int .i64 0, .slice none 0 0, .slice none 0 0, .slice none 0 0, .slice none 0 0] (n * 5)).toList.length := by rw [hlen]; omega
    rw [h.cell hlt]
    have e : (0 + i * 5 + j) % 5 = j := by omega
    simp only [madeCells, Array.toList_ofFn, List.getElem_ofFn]
    match j, hj, e with
    | 0, _, e => simp [e]
    | 1, _, e => simp [e]
    | 2, _, e => simp [e]
    | 3, _, e => simp [e]
    | 4, _, e => simp [e]
  simp only [List.getElem_replicate]
  exact ⟨_, _, _, _, c 0 (by omega), c 1 (by omega), c 2 (by omega), c 3 (by omega), c 4 (by omega), Lst.none_ _ _, Lst.none_ _ _, Lst.none_ _ _, Lst.none_ _ _⟩
/-- played's blocks at a round's head -/
structure PlayAt (w wr : World) (W : Wd) (r s out : Value) (k : Nat) : Prop where
  R : RowTo wr w.heap.size 25 2 [.slice none 0 0, .slice none 0 0]
  X : RowTo wr (w.heap.size + 1 + 1) 25 2 [r, s]
  wld : WldP wr (fun b => b ≠ w.heap.size ∧ b ≠ w.heap.size + 1 + 1 ∧ out.ownBlock ≠ some b) r s W
  own : ∃ xs, wr.ownsRow (w.heap.size + 1 + 1 + 1) 30 3 out k xs
  bel : Below w.heap.size w wr
  size : w.heap.size + 1 + 1 + 1 ≤ wr.heap.size
/-- what holds behind each call of a round -/
def PJ (wr : World) (c : Value) (x : Value × Value × Value) (V : Wd) (a : Ans) (st : Int) (A0 : Go.Act) : Nat → Go.Act → World → Prop
  | 0, f, wc => f = A0 ∧ Below wr.heap.size wr wc
  | 1, f, wc => f = A0.put (some 37) c ∧ Below wr.heap.size wr wc
  | 2, f, wc => f = (A0.put (some 37) c).put (some 42) (.agg #[x.1, x.2.1, x.2.2]) ∧ Below wr.heap.size wr wc
  | _, f, wc => ∃ r2 s2, f = ((A0.put (some 37) c).put (some 42) (.agg #[x.1, x.2.1, x.2.2])).put (some 43) (doGood r2 s2 a st) ∧ WldP wc (fun b => wr.heap.size ≤ b) r2 s2 V ∧ Below wr.heap.size wr wc
def PJ' (wr : World) (c : Value) (x : Value × Value × Value) (V : Wd) (a : Ans) (st : Int) (A0 : Go.Act) (f : Go.Act) (wc : World) : Prop :=
  ∃ r2 s2, f = (((((((A0.put (some 37) c).put (some 42) (.agg #[x.1, x.2.1, x.2.2])).put (some 43) (doGood r2 s2 a st)).put (some 29) (doGood r2 s2 a st)).put (some 44) (.agg #[r2, s2])).put (some 45) (.agg #[.int .i64 a.kind, .string a.text, .int .i64 st])).put (some 46) (.int .i64 0)) ∧ WldP wc (fun b => wr.heap.size ≤ b) r2 s2 V ∧ Below wr.heap.size wr wc
section
variable {wr : World} {c : Value} {x : Value × Value × Value} {V : Wd} {an : Ans} {st : Int} {A0 : Go.Act}
theorem pj_alloc (j : Nat) (f : Go.Act) (w : World) (o : Obj) (h : PJ wr c x V an st A0 j f w) : PJ wr c x V an st A0 j f (w.alloc o) := by
  have al := (Below.refl w.heap.size w).alloc (Nat.le_refl _) o
  match j, h with
  | 0, h => exact ⟨h.1, h.2.alloc h.2.size o⟩
  | 1, h => exact ⟨h.1, h.2.alloc h.2.size o⟩
  | 2, h => exact ⟨h.1, h.2.alloc h.2.size o⟩
  | j + 3, h => obtain ⟨r2, s2, h1, h2, h3⟩ := h; exact ⟨r2, s2, h1, h2.below al, h3.alloc h3.size o⟩
theorem pj'_alloc (f : Go.Act) (w : World) (o : Obj) (h : PJ' wr c x V an st A0 f w) : PJ' wr c x V an st A0 f (w.alloc o) := by
  obtain ⟨r2, s2, h1, h2, h3⟩ := h; exact ⟨r2, s2, h1, h2.below ((Below.refl w.heap.size w).alloc (Nat.le_refl _) o), h3.alloc h3.size o⟩
theorem pj_bel (j : Nat) (f : Go.Act) (w : World) (h : PJ wr c x V an st A0 j f w) : Below wr.heap.size wr w := by
  match j, h with
  | 0, h => exact h.2
  | 1, h => exact h.2
  | 2, h => exact h.2
  | j + 3, h => obtain ⟨r2, s2, h1, h2, h3⟩ := h; exact h3
theorem pj'_bel (f : Go.Act) (w : World) (h : PJ' wr c x V an st A0 f w) : Below wr.heap.size wr w := by obtain ⟨r2, s2, h1, h2, h3⟩ := h; exact h3
end
/-- a round's new variables -/
structure NewAt (wr w9 : World) (b1 c1 : Nat) (V : Wd) (a : Ans) (st : Int) (r2 s2 : Value) : Prop where
  b : RowTo w9 b1 25 2 [r2, s2]
  c : RowTo w9 c1 30 3 [.int .i64 a.kind, .string a.text, .int .i64 st]
  wld : WldP w9 (fun b => wr.heap.size ≤ b) r2 s2 V
  bel : Below wr.heap.size wr w9
  lb : wr.heap.size ≤ b1
  lc : wr.heap.size ≤ c1
  ne : b1 ≠ c1
theorem new_at {wr wc : World} {b1 c1 : Nat} {V : Wd} {a : Ans} {st : Int} {r2 s2 : Value} (hX : RowTo wc b1 25 2 [.slice none 0 0, .slice none 0 0]) (hY : RowTo wc c1 30 3 [.int .i64 0, .string ⟨#[]⟩, .int .i64 0]) (hw : WldP wc (fun b => wr.heap.size ≤ b) r2 s2 V) (hb : Below wr.heap.size wr wc) (lb : wr.heap.size ≤ b1) (lc : wr.heap.size ≤ c1) (hbc : b1 ≠ c1) :
    NewAt wr (((((wc.setCell ⟨b1, 0, none⟩ r2).setCell ⟨b1, 1, none⟩ s2).setCell ⟨c1, 0, none⟩ (.int .i64 a.kind)).setCell ⟨c1, 1, none⟩ (.string a.text)).setCell ⟨c1, 2, none⟩ (.int .i64 st)) b1 c1 V a st r2 s2 := by
  have Y1 := hY.oth2 hbc r2 s2
  refine ⟨(hX.set2 r2 s2).oth3 (Ne.symm hbc) _ _ _, Y1.set3 _ _ _, ?_, bel_set3 (bel_set2 hb lb _ _) lc _ _ _, lb, lc, hbc⟩
  refine WldP.off (R := c1) (w := (wc.setCell ⟨b1, 0, none⟩ r2).setCell ⟨b1, 1, none⟩ s2) ?_ (noTwo_answer Y1) (noSes_answer Y1) (by simp [World.setCell]) (fun b hb => by rw [Below.heap_setCell _ _ _ _ hb, Below.heap_setCell _ _ _ _ hb, Below.heap_setCell _ _ _ _ hb])
  exact hw.off (noTwo_world hX) (noSes_world hX) (by simp [World.setCell]) (fun b hb => by rw [Below.heap_setCell _ _ _ _ hb, Below.heap_setCell _ _ _ _ hb])
/-- the next round's head -/
theorem PlayAt.round {w wr w9 w5 : World} {W V : Wd} {r s out : Value} {k b1 c1 g cap : Nat} {a : Ans} {st : Int} {r2 s2 : Value} {xs : List Value} {o : Obj} (h : PlayAt w wr W r s out k) (hn : NewAt wr w9 b1 c1 V a st r2 s2)
    (hown : w5.ownsRow (w.heap.size + 1 + 1 + 1) 30 3 (.slice (some ⟨g, 0, none⟩) (k + 1) cap) (k + 1) xs)
    (hg : ((((w9.setCell ⟨w.heap.size + 1 + 1, 0, none⟩ r2).setCell ⟨w.heap.size + 1 + 1, 1, none⟩ s2)).alloc o).grownBy w5 out.ownBlock) (hat : out.ownBlock = some g ∨ g = w9.heap.size + 1) : PlayAt w w5 V r2 s2 (.slice (some ⟨g, 0, none⟩) (k + 1) cap) (k + 1) := by
  have hz := hn.bel.size
  have hRl := h.R.lt
  have hXl := h.X.lt
  obtain ⟨ys, hox⟩ := h.own
  have hout : ∀ b, out.ownBlock = some b → w.heap.size + 1 + 1 + 1 ≤ b ∧ b < wr.heap.size := fun b hb => hox.lt b hb
  have hs8 : ((w9.setCell ⟨w.heap.size + 1 + 1, 0, none⟩ r2).setCell ⟨w.heap.size + 1 + 1, 1, none⟩ s2).heap.size = w9.heap.size := by simp [World.setCell]
  have hX9 := h.X.below hn.bel hXl
  have hR9 := h.R.below hn.bel hRl
  have far : ∀ b, b < w9.heap.size → out.ownBlock ≠ some b → w5.heap[b]? = ((w9.setCell ⟨w.heap.size + 1 + 1, 0, none⟩ r2).setCell ⟨w.heap.size + 1 + 1, 1, none⟩ s2).heap[b]? := fun b hb hne => by
    rw [hg.block b (by rw [World.size_alloc, hs8]; omega) (fun e => hne e.symm), Below.heap_alloc _ _ _ (by rw [hs8]; exact hb)]
  have low : ∀ b, b < w.heap.size + 1 + 1 + 1 → out.ownBlock ≠ some b := fun b hb e => by have := hout b e; omega
  have b9 : Below w.heap.size w (((w9.setCell ⟨w.heap.size + 1 + 1, 0, none⟩ r2).setCell ⟨w.heap.size + 1 + 1, 1, none⟩ s2).alloc o) := (bel_set2 (bel_add' h.bel hn.bel h.bel.size) (by omega) _ _).alloc (by rw [hs8]; have := h.bel.size; omega) o
  refine ⟨(hR9.oth2 (by omega) _ _).same (far _ (by omega) (low _ (by omega))), (hX9.set2 r2 s2).same (far _ (by omega) (low _ (by omega))), ?_, ⟨xs, hown⟩, b9.grown hg (by rw [World.size_alloc, hs8]; have := h.bel.size; omega) (fun b hb => by have := hout b hb; omega), by have := hg.size; rw [World.size_alloc, hs8] at this; omega⟩
  have hlt : ∀ b, (wr.heap.size ≤ b ∧ b < w9.heap.size) → b ≠ w.heap.size ∧ b ≠ w.heap.size + 1 + 1 ∧ Value.ownBlock (.slice (some ⟨g, 0, none⟩) (k + 1) cap) ≠ some b := fun b hb => by
    refine ⟨by omega, by omega, fun e => ?_⟩
    injection e with e
    dsimp only at e
    rcases hat with h1 | h1
    · have := hout g h1; omega
    · omega
  have W9 := hn.wld
  have keep : ∀ b, wr.heap.size ≤ b → b < w9.heap.size → w5.heap[b]? = w9.heap[b]? := fun b h1 h2 => by
    rw [far b h2 (fun e => by have := hout b e; omega), Below.heap_setCell _ _ _ _ (by show b ≠ w.heap.size + 1 + 1; omega), Below.heap_setCell _ _ _ _ (by show b ≠ w.heap.size + 1 + 1; omega)]
  have W5 := W9.keep (w' := w5) (by have := hg.size; rw [World.size_alloc, hs8] at this; omega) keep
  have W9' : WldP w9 (fun b => wr.heap.size ≤ b ∧ b < w9.heap.size) r2 s2 V := W9.small
  exact (W9'.keep (w' := w5) (by have := hg.size; rw [World.size_alloc, hs8] at this; omega) (fun b hb hlt' => keep b hb.1 hb.2)).mono hlt

theorem PlayAt.fin {w wr : World} {W : Wd} {D A : Option Addr} {d c k : Nat} {out : Value} (h : PlayAt w wr W (.slice D W.rows.length d) (.slice A W.ss.length c) out k) :
    Wld ((wr.setCell ⟨w.heap.size, 0, none⟩ (.slice D W.rows.length d)).setCell ⟨w.heap.size, 1, none⟩ (.slice A W.ss.length c)) ((wr.setCell ⟨w.heap.size, 0, none⟩ (.slice D W.rows.length d)).setCell ⟨w.heap.size, 1, none⟩ (.slice A W.ss.length c)).heap.size (.slice D W.rows.length d) (.slice A W.ss.length c) W ∧
    Below w.heap.size w ((wr.setCell ⟨w.heap.size, 0, none⟩ (.slice D W.rows.length d)).setCell ⟨w.heap.size, 1, none⟩ (.slice A W.ss.length c)) := ⟨h.wld.wld.set2 h.R _ _, bel_set2 h.bel (Nat.le_refl _) _ _⟩

set_option maxHeartbeats 8000000 in
theorem played_any (v : Value) (l : List Raw) (n m : Nat) (w : World) (hl : RLst w w.heap.size v l) (hWo : Words w) (hn : 0 < n) (hn8 : n ≤ 8) (hm : m ≤ 1000) :
    Calls Tryd.prog 13 #[v, .int .i64 n, .int .i64 m] w fun e w' => ∃ r s o, e = .returned (.tuple #[.agg #[r, s], o, .bool true]) ∧ Wld w' w'.heap.size r s (playM n (zeroW n) (l.take m)) ∧ Below w.heap.size w w' := by
  obtain ⟨E, e, rfl, he⟩ := hl.form
  have hby := hl.bytes
  have HL := Lib.hid hl
  have HWo := Lib.hid hWo
  have hmk := make_sess n (by omega)
  obtain ⟨i0, hi, hz0, hz1, hz2⟩ := info_parts ans_row
  have HI := Lib.hid (And.intro hi (And.intro hz0 (And.intro hz1 hz2)))
  clear hl hWo hi hz0 hz1 hz2
  go_enter Tryd.func13, Tryd.ntmps13
  go_wp2
  clear hmk
  go_loopw [10, 11] (fun o j wr => ∃ k : Nat, k ≤ l.length ∧ k ≤ m ∧ j = .int .i64 k ∧ Hid (∃ r s, PlayAt w wr (playM n (zeroW n) (l.take k)) r s o k)) (fun _ j _ => l.length - (intOf j).toNat)
  case atStart =>
    have b1 := (Below.refl w.heap.size w).alloc (Nat.le_refl _) (.cells #[.slice none 0 0, .slice none 0 0] 25)
    have b2 := b1.alloc (by simp) (.cells (madeCells #[.int .i64 0, .slice none 0 0, .slice none 0 0, .slice none 0 0, .slice none 0 0] (n * 5)) 46)
    have b3 := b2.alloc (by simp; omega) (.cells #[.slice none 0 0, .slice (some ⟨w.heap.size + 1, 0, none⟩) n n] 25)
    have x2 := (RowTo.whole (w.alloc (.cells #[.slice none 0 0, .slice none 0 0] 25)) (madeCells #[.int .i64 0, .slice none 0 0, .slice none 0 0, .slice none 0 0, .slice none 0 0] (n * 5)) 46).alloc (.cells #[.slice none 0 0, .slice (some ⟨w.heap.size + 1, 0, none⟩) n n] 25)
    have x3 := RowTo.whole ((w.alloc (.cells #[.slice none 0 0, .slice none 0 0] 25)).alloc (.cells (madeCells #[.int .i64 0, .slice none 0 0, .slice none 0 0, .slice none 0 0, .slice none 0 0] (n * 5)) 46)) #[.slice none 0 0, .slice (some ⟨w.heap.size + 1, 0, none⟩) n n] 25
    rw [madeCells_size] at x2
    simp only [World.size_alloc] at x2 x3
    have hs := made_sess x2 hn8
    refine ⟨0, by omega, by omega, rfl, _, _, ((RowTo.whole w #[.slice none 0 0, .slice none 0 0] _).alloc _).alloc _, x3, WldP.mk' (Lst.none_ _ _) (InP.nil_ _ _) hs.form hs.bytes (fun hp => ?_), ⟨[], World.ownsRow_nil _ _ _ _⟩, b3, by simp⟩
    obtain ⟨b', off', c', e', hb', hc'⟩ := hs.cells hp
    refine ⟨b', off', c', e', ?_, hb', fun i hi => ?_⟩
    · injection e' with e'
      injection e' with e'
      injection e' with e1' e2'
      subst e1' e2'
      exact ⟨by omega, by omega, by simp [Value.ownBlock]⟩
    · obtain ⟨v1, v2, v3, v4, q⟩ := hc' i hi
      have hi' : i < (List.replicate n Sess.zero).length := hi
      have z : (List.replicate n Sess.zero)[i]'hi' = Sess.zero := List.getElem_replicate _
      refine ⟨v1, v2, v3, v4, q, ?_, ?_, ?_, ?_⟩
      · show InP _ v1 ((List.replicate n Sess.zero)[i]'hi').set
        rw [z]; exact InP.nil_ _ _
      · show InP _ v2 ((List.replicate n Sess.zero)[i]'hi').prep
        rw [z]; exact InP.nil_ _ _
      · show InP _ v3 ((List.replicate n Sess.zero)[i]'hi').sav
        rw [z]; exact InP.nil_ _ _
      · show InP _ v4 ((List.replicate n Sess.zero)[i]'hi').wr
        rw [z]; exact InP.nil_ _ _
  case round =>
    obtain ⟨k, hk, hkm, rfl, hR⟩ := hrel
    obtain ⟨r, s, hR⟩ := hR.out
    have HRR := Lib.hid hR
    obtain ⟨A, c, rfl, hc⟩ := hR.wld.wld.sess.form
    obtain ⟨D, d, rfl, hd⟩ := hR.wld.wld.rows.form
    by_cases hlt : k < l.length ∧ k < m
    · obtain ⟨hlt, hltm⟩ := hlt
      have hs1 : l.take (k + 1) = l.take k ++ [l[k]] := List.take_succ_eq_append_getElem hlt
      have HS1 := Lib.hid (show playM n (zeroW n) (l.take (k + 1)) = (doR (playM n (zeroW n) (l.take k)) (pickI l[k].c n).toNat (reqR l[k])).1 by rw [hs1, playM_snoc])
      clear hs1
      have hokk := play_ok hn (l := l.take k) (W := zeroW n) (zeros_ok hn8) (by simp [zeroW])
      have hwf := HL.out.wf l[k] (List.getElem_mem hlt)
      generalize playM n (zeroW n) (l.take k) = Wk at *
      obtain ⟨b, off, rfl, hb, l0, l1, l2, l3⟩ := HL.out.pt hlt
      generalize hx : l[k] = x at *
      clear hx
      have bl := hR.bel
      have d0 := (bl.cell (p := ⟨b, off + k * 4, none⟩) hb).trans l0
      have d1 := (bl.cell (p := ⟨b, off + k * 4 + 1, none⟩) hb).trans l1
      have d2 := (bl.cell (p := ⟨b, off + k * 4 + 2, none⟩) hb).trans l2
      have d3 := (bl.cell (p := ⟨b, off + k * 4 + 3, none⟩) hb).trans l3
      obtain ⟨x0, x1⟩ := cells2 hR.X
      have hXw := hR.X.lt
      have hbw : b < wr.heap.size := Nat.lt_of_lt_of_le hb bl.size
      obtain ⟨w1, w2, w3, w4⟩ := hwf
      have hcb := i64_bd w4
      have hpk := pickI_bd x.c (m := n) (by omega)
      have hpn : ((pickI x.c n).toNat : Int) = pickI x.c n := by omega
      have hpl : (pickI x.c n).toNat < n := by omega
      have HP := Lib.hid (fun wc => picked_any x.c n wc hcb.1 hcb.2 (by omega) (by omega))
      have HT := Lib.hid (fun wc => stmt_any x.kd x.a x.b x.c wc w1 w2 w3 w4)
      have HG := Lib.hid (reqR_ok x)
      have hdo := fun (r s : Value) (wc : World) (h1 : Wld wc wc.heap.size r s Wk) (h2 : Words wc) => do_new r s Wk (pickI x.c n).toNat (reqR x).k (reqR x).key (reqR x).val wc h1 h2 hokk.1 (by rw [hokk.2]; exact hpl) HG.out
      rw [hpn] at hdo
      obtain ⟨q, HQ⟩ : ∃ q, Hid (doR Wk (pickI x.c n).toNat (reqR x) = q) := ⟨_, Lib.hid rfl⟩
      have hq : doM Wk (pickI x.c n).toNat (reqR x).k (reqR x).key (reqR x).val = q := HQ.out
      rw [hq] at hdo
      rw [HQ.out] at HS1
      obtain ⟨st, HST⟩ : ∃ st, Hid ((q.1.at (pickI x.c n).toNat).st = st) := ⟨_, Lib.hid rfl⟩
      rw [HST.out] at hdo
      have HDO := Lib.hid hdo
      obtain ⟨qk, HQK⟩ : ∃ qk, Hid ((reqR x).k = qk) := ⟨_, Lib.hid rfl⟩
      obtain ⟨qe, HQE⟩ : ∃ qe, Hid ((reqR x).key = qe) := ⟨_, Lib.hid rfl⟩
      obtain ⟨qv, HQV⟩ : ∃ qv, Hid ((reqR x).val = qv) := ⟨_, Lib.hid rfl⟩
      obtain ⟨pc', HPC⟩ : ∃ pc', Hid (pickI x.c n = pc') := ⟨_, Lib.hid rfl⟩
      have HT2 : Hid (∀ wc : World, Calls Tryd.prog 15 #[.agg #[.int .i64 x.kd, .int .i64 x.a, .int .i64 x.b, .int .i64 x.c]] wc fun e w' => e = .returned (.agg #[.int .i64 (reqR x).k, .string (reqR x).key, .string (reqR x).val]) ∧ Below wc.heap.size wc w') := Lib.hid fun wc => HT.out wc
      rw [HQK.out, HQE.out, HQV.out] at HDO HT2
      rw [HPC.out] at HDO HP
      have HRP := Lib.hid hR.wld.wld
      have HRB := Lib.hid hR.bel
      clear hR bl l0 l1 l2 l3 hokk hpk hpn hpl hdo hq w1 w2 w3 w4 hcb HT HG HQK HQE HQV HPC HST HQ
      go_wp2_with fail
      refine wp_region_z 22 (fun wx => wx.cell? ⟨w.heap.size + 1 + 1, 0, none⟩ = some (.slice D Wk.rows.length d) ∧ wx.cell? ⟨w.heap.size + 1 + 1, 1, none⟩ = some (.slice A Wk.ss.length c) ∧ wx.cell? ⟨b, off + k * 4, none⟩ = some (.int .i64 x.kd) ∧ wx.cell? ⟨b, off + k * 4 + 1, none⟩ = some (.int .i64 x.a) ∧ wx.cell? ⟨b, off + k * 4 + 2, none⟩ = some (.int .i64 x.b) ∧ wx.cell? ⟨b, off + k * 4 + 3, none⟩ = some (.int .i64 x.c)) (by kernel_rfl) (show wr.drew.cell? ⟨w.heap.size + 1 + 1, 0, none⟩ = some (.slice D Wk.rows.length d) ∧ wr.drew.cell? ⟨w.heap.size + 1 + 1, 1, none⟩ = some (.slice A Wk.ss.length c) ∧ wr.drew.cell? ⟨b, off + k * 4, none⟩ = some (.int .i64 x.kd) ∧ wr.drew.cell? ⟨b, off + k * 4 + 1, none⟩ = some (.int .i64 x.a) ∧ wr.drew.cell? ⟨b, off + k * 4 + 2, none⟩ = some (.int .i64 x.b) ∧ wr.drew.cell? ⟨b, off + k * 4 + 3, none⟩ = some (.int .i64 x.c) from ⟨x0, x1, d0, d1, d2, d3⟩) (fun hS => ?_)
      refine wpAnyZ_take (i := 0) (v := ?v0) rfl (by kernel_rfl) (by kernel_rfl) (by kernel_rfl) (by kernel_rfl) (fun _ _ _ h => h) (Or.inl ⟨by rfl, ?y0⟩) hS ?r0
      case y0 => (intro w hSw; (try dsimp only at hSw); (try simp only [List.getElem_toArray, List.getElem_cons_zero, List.getElem_cons_succ]); go_simp; try with_reducible rfl)
      (try simp only [List.getElem_toArray, List.getElem_cons_zero, List.getElem_cons_succ, Act.put, List.setIfInBounds_toArray, List.set_cons_zero, List.set_cons_succ])
      refine wpAnyZ_take (i := 1) (v := ?v1) rfl (by kernel_rfl) (by kernel_rfl) (by kernel_rfl) (by kernel_rfl) (fun _ _ _ h => h) (Or.inl ⟨by rfl, ?y1⟩) hS ?r1
      case y1 => (intro w hSw; (try dsimp only at hSw); (try simp only [List.getElem_toArray, List.getElem_cons_zero, List.getElem_cons_succ]); go_simp; try with_reducible rfl)
      (try simp only [List.getElem_toArray, List.getElem_cons_zero, List.getElem_cons_succ, Act.put, List.setIfInBounds_toArray, List.set_cons_zero, List.set_cons_succ])
      refine wpAnyZ_take (i := 2) (v := ?v2) rfl (by kernel_rfl) (by kernel_rfl) (by kernel_rfl) (by kernel_rfl) (fun _ _ _ h => h) (Or.inl ⟨by rfl, ?y2⟩) hS ?r2
      case y2 => (intro w hSw; (try dsimp only at hSw); (try simp only [List.getElem_toArray, List.getElem_cons_zero, List.getElem_cons_succ]); go_simp; try with_reducible rfl)
      (try simp only [List.getElem_toArray, List.getElem_cons_zero, List.getElem_cons_succ, Act.put, List.setIfInBounds_toArray, List.set_cons_zero, List.set_cons_succ])
      refine wpAnyZ_take (i := 3) (v := ?v3) rfl (by kernel_rfl) (by kernel_rfl) (by kernel_rfl) (by kernel_rfl) (fun _ _ _ h => h) (Or.inl ⟨by rfl, ?y3⟩) hS ?r3
      case y3 => (intro w hSw; (try dsimp only at hSw); (try simp only [List.getElem_toArray, List.getElem_cons_zero, List.getElem_cons_succ]); go_simp; try with_reducible rfl)
      (try simp only [List.getElem_toArray, List.getElem_cons_zero, List.getElem_cons_succ, Act.put, List.setIfInBounds_toArray, List.set_cons_zero, List.set_cons_succ])
      refine wpAnyZ_take (i := 4) (v := ?v4) rfl (by kernel_rfl) (by kernel_rfl) (by kernel_rfl) (by kernel_rfl) (fun _ _ _ h => h) (Or.inl ⟨by rfl, ?y4⟩) hS ?r4
      case y4 => (intro w hSw; (try dsimp only at hSw); (try simp only [List.getElem_toArray, List.getElem_cons_zero, List.getElem_cons_succ]); go_simp; try with_reducible rfl)
      (try simp only [List.getElem_toArray, List.getElem_cons_zero, List.getElem_cons_succ, Act.put, List.setIfInBounds_toArray, List.set_cons_zero, List.set_cons_succ])
      refine wpAnyZ_take (i := 5) (v := ?v5) rfl (by kernel_rfl) (by kernel_rfl) (by kernel_rfl) (by kernel_rfl) (fun _ _ _ h => h) (Or.inl ⟨by rfl, ?y5⟩) hS ?r5
      case y5 => (intro w hSw; (try dsimp only at hSw); (try simp only [List.getElem_toArray, List.getElem_cons_zero, List.getElem_cons_succ]); go_simp; try with_reducible rfl)
      (try simp only [List.getElem_toArray, List.getElem_cons_zero, List.getElem_cons_succ, Act.put, List.setIfInBounds_toArray, List.set_cons_zero, List.set_cons_succ])
      refine wpAnyZ_take (i := 6) (v := ?v6) rfl (by kernel_rfl) (by kernel_rfl) (by kernel_rfl) (by kernel_rfl) (fun _ _ _ h => h) (Or.inl ⟨by rfl, ?y6⟩) hS ?r6
      case y6 => (intro w hSw; (try dsimp only at hSw); (try simp only [List.getElem_toArray, List.getElem_cons_zero, List.getElem_cons_succ]); go_simp; try with_reducible rfl)
      (try simp only [List.getElem_toArray, List.getElem_cons_zero, List.getElem_cons_succ, Act.put, List.setIfInBounds_toArray, List.set_cons_zero, List.set_cons_succ])
      refine wpAnyZ_take (i := 8) (v := ?v8) rfl (by kernel_rfl) (by kernel_rfl) (by kernel_rfl) (by kernel_rfl) (fun _ _ _ h => h) (Or.inl ⟨by rfl, ?y8⟩) hS ?r8
      case y8 => (intro w hSw; (try dsimp only at hSw); (try simp only [List.getElem_toArray, List.getElem_cons_zero, List.getElem_cons_succ]); go_simp; try with_reducible rfl)
      (try simp only [List.getElem_toArray, List.getElem_cons_zero, List.getElem_cons_succ, Act.put, List.setIfInBounds_toArray, List.set_cons_zero, List.set_cons_succ])
      refine wpAnyZ_take (i := 9) (v := ?v9) rfl (by kernel_rfl) (by kernel_rfl) (by kernel_rfl) (by kernel_rfl) (fun _ _ _ h => h) (Or.inl ⟨by rfl, ?y9⟩) hS ?r9
      case y9 => (intro w hSw; (try dsimp only at hSw); (try simp only [List.getElem_toArray, List.getElem_cons_zero, List.getElem_cons_succ]); go_simp; try with_reducible rfl)
      (try simp only [List.getElem_toArray, List.getElem_cons_zero, List.getElem_cons_succ, Act.put, List.setIfInBounds_toArray, List.set_cons_zero, List.set_cons_succ])
      refine wpAnyZ_take (i := 10) (v := ?v10) rfl (by kernel_rfl) (by kernel_rfl) (by kernel_rfl) (by kernel_rfl) (fun _ _ _ h => h) (Or.inl ⟨by rfl, ?y10⟩) hS ?r10
      case y10 => (intro w hSw; (try dsimp only at hSw); (try simp only [List.getElem_toArray, List.getElem_cons_zero, List.getElem_cons_succ]); go_simp; try with_reducible rfl)
      (try simp only [List.getElem_toArray, List.getElem_cons_zero, List.getElem_cons_succ, Act.put, List.setIfInBounds_toArray, List.set_cons_zero, List.set_cons_succ])
      refine wpAnyZ_take (i := 11) (v := ?v11) rfl (by kernel_rfl) (by kernel_rfl) (by kernel_rfl) (by kernel_rfl) (fun _ _ _ h => h) (Or.inl ⟨by rfl, ?y11⟩) hS ?r11
      case y11 => (intro w hSw; (try dsimp only at hSw); (try simp only [List.getElem_toArray, List.getElem_cons_zero, List.getElem_cons_succ]); go_simp; try with_reducible rfl)
      (try simp only [List.getElem_toArray, List.getElem_cons_zero, List.getElem_cons_succ, Act.put, List.setIfInBounds_toArray, List.set_cons_zero, List.set_cons_succ])
      refine grid0 (C := 3) (cop := fun c => if c = 0 then 7 else if c = 1 then 12 else 13) (dst := fun c => if c = 0 then 37 else if c = 1 then 42 else 43) (p := 18) (q := 19) (dp := 12) (dq := 13) (tp := 25) (tq := 30) (zp := #[.slice none 0 0, .slice none 0 0]) (zq := #[.int .i64 0, .string ⟨#[]⟩, .int .i64 0])
        (Lst := fun c x y => #[true, true, true, true, true, true, true, decide (0 < c), true, true, true, true, decide (1 < c), decide (2 < c), false, false, false, false, x, y, false, false, false]) (Lst' := fun x y => #[true, true, true, true, true, true, true, true, true, true, true, true, true, true, true, true, true, true, x, y, false, false, false]) ?gG (PJ wr (.int .i64 pc') (.int .i64 qk, .string qe, .string qv) q.1 q.2 st) (PJ' wr (.int .i64 pc') (.int .i64 qk, .string qe, .string qv) q.1 q.2 st) 3 4 wr.heap.size (fun c a w o h => pj_alloc c a w o h) (fun a w o h => pj'_alloc a w o h) ?g3 ?g4 (fun c a w h => (pj_bel c a w h).size) (fun a w h => (pj'_bel a w h).size) ?g5 ?g6 ?g7 ⟨rfl, (Below.refl _ _).drew⟩
      case gG =>
        refine ⟨⟨_, rfl, rfl, rfl, fun ev w => (by go_simp; rfl)⟩, ⟨_, rfl, rfl, rfl, fun ev w => (by go_simp; rfl)⟩, (by decide), fun c h => (by (repeat' split) <;> decide), fun c x y h => ?_, fun x y h => (match x, y, h with | false, false, _ => (by kernel_rfl) | false, true, _ => (by kernel_rfl) | true, false, _ => (by kernel_rfl) | true, true, h => (by cases h)), fun c x y h => ?_, fun c y h => rfl, fun c x h => rfl, fun y => rfl, fun x => rfl⟩
        · match c, h with
          | 0, _ => cases x <;> cases y <;> (show _ = _; kernel_rfl)
          | 1, _ => cases x <;> cases y <;> (show _ = _; kernel_rfl)
          | 2, _ => cases x <;> cases y <;> (show _ = _; kernel_rfl)
        · match c, h with
          | 0, _ => rfl
          | 1, _ => rfl
          | 2, _ => rfl
      case g3 => exact fun c a wc h => ⟨((pj_bel c a wc h).cell (p := ⟨w.heap.size + 1 + 1, 0, none⟩) hXw).trans x0, ((pj_bel c a wc h).cell (p := ⟨w.heap.size + 1 + 1, 1, none⟩) hXw).trans x1, ((pj_bel c a wc h).cell (p := ⟨b, off + k * 4, none⟩) hbw).trans d0, ((pj_bel c a wc h).cell (p := ⟨b, off + k * 4 + 1, none⟩) hbw).trans d1, ((pj_bel c a wc h).cell (p := ⟨b, off + k * 4 + 2, none⟩) hbw).trans d2, ((pj_bel c a wc h).cell (p := ⟨b, off + k * 4 + 3, none⟩) hbw).trans d3⟩
      case g4 => exact fun a wc h => ⟨((pj'_bel a wc h).cell (p := ⟨w.heap.size + 1 + 1, 0, none⟩) hXw).trans x0, ((pj'_bel a wc h).cell (p := ⟨w.heap.size + 1 + 1, 1, none⟩) hXw).trans x1, ((pj'_bel a wc h).cell (p := ⟨b, off + k * 4, none⟩) hbw).trans d0, ((pj'_bel a wc h).cell (p := ⟨b, off + k * 4 + 1, none⟩) hbw).trans d1, ((pj'_bel a wc h).cell (p := ⟨b, off + k * 4 + 2, none⟩) hbw).trans d2, ((pj'_bel a wc h).cell (p := ⟨b, off + k * 4 + 3, none⟩) hbw).trans d3⟩
      case g5 =>
        intro c0 a wc x' y hc0 hj hx hy
        match c0, hc0, hj with
        | 0, _, hj =>
          obtain ⟨rfl, hb⟩ := hj
          refine wpOp_wp rfl rfl (wp_call (g := 14) (args := #[.int .i64 x.c, .int .i64 n]) ?_ ?_)
          · cases x' <;> cases y <;> (simp only [fr, pt, doGood, Act.put, List.setIfInBounds_toArray, List.set_cons_zero, List.set_cons_succ]; go_simp; try rfl)
          · refine (HP.out wc).mono ?_
            rintro e w3 ⟨rfl, rfl⟩
            exact ⟨_, rfl, _, rfl, ⟨rfl, hb⟩, hx, hy⟩
        | 1, _, hj =>
          obtain ⟨rfl, hb⟩ := hj
          refine wpOp_wp rfl rfl (wp_call (g := 15) (args := #[.agg #[.int .i64 x.kd, .int .i64 x.a, .int .i64 x.b, .int .i64 x.c]]) ?_ ?_)
          · cases x' <;> cases y <;> (simp only [fr, pt, doGood, Act.put, List.setIfInBounds_toArray, List.set_cons_zero, List.set_cons_succ]; go_simp; try rfl)
          · refine (HT2.out wc).mono ?_
            rintro e w3 ⟨rfl, hb3⟩
            exact ⟨_, rfl, _, rfl, ⟨rfl, bel_add' hb hb3 hb.size⟩, zs_below hx hb3, zs_below hy hb3⟩
        | 2, _, hj =>
          obtain ⟨rfl, hb⟩ := hj
          refine wpOp_wp rfl rfl (wp_call (g := 10) (args := #[.agg #[.slice D Wk.rows.length d, .slice A Wk.ss.length c], .int .i64 pc', .agg #[.int .i64 qk, .string qe, .string qv]]) ?_ ?_)
          · cases x' <;> cases y <;> (simp only [fr, pt, doGood, Act.put, List.setIfInBounds_toArray, List.set_cons_zero, List.set_cons_succ]; go_simp; try rfl)
          · refine (HDO.out _ _ wc (HRP.out.step hb) (HWo.out.below (bel_add' HRB.out hb HRB.out.size))).mono ?_
            rintro e w3 ⟨r2, s2, rfl, hw3, hb3⟩
            exact ⟨_, rfl, _, rfl, ⟨r2, s2, rfl, hw3.mono (fun b hq => Nat.le_trans hb.size hq), bel_add' hb hb3 hb.size⟩, zs_below hx hb3, zs_below hy hb3⟩
      case g6 =>
        intro a wc x' y n' hj hx hy hk'
        obtain ⟨r2, s2, rfl, hw3, hb⟩ := hj
        have hS : wc.cell? ⟨w.heap.size + 1 + 1, 0, none⟩ = some (.slice D Wk.rows.length d) ∧ wc.cell? ⟨w.heap.size + 1 + 1, 1, none⟩ = some (.slice A Wk.ss.length c) ∧ wc.cell? ⟨b, off + k * 4, none⟩ = some (.int .i64 x.kd) ∧ wc.cell? ⟨b, off + k * 4 + 1, none⟩ = some (.int .i64 x.a) ∧ wc.cell? ⟨b, off + k * 4 + 2, none⟩ = some (.int .i64 x.b) ∧ wc.cell? ⟨b, off + k * 4 + 3, none⟩ = some (.int .i64 x.c) := ⟨(hb.cell (p := ⟨w.heap.size + 1 + 1, 0, none⟩) hXw).trans x0, (hb.cell (p := ⟨w.heap.size + 1 + 1, 1, none⟩) hXw).trans x1, (hb.cell (p := ⟨b, off + k * 4, none⟩) hbw).trans d0, (hb.cell (p := ⟨b, off + k * 4 + 1, none⟩) hbw).trans d1, (hb.cell (p := ⟨b, off + k * 4 + 2, none⟩) hbw).trans d2, (hb.cell (p := ⟨b, off + k * 4 + 3, none⟩) hbw).trans d3⟩
        have hk' := hk' _ ⟨r2, s2, rfl, hw3, hb⟩
        clear hx hy hw3
        cases x' <;> cases y
        all_goals
          simp only [fr, pt, doGood, Act.put, List.setIfInBounds_toArray, List.set_cons_zero, List.set_cons_succ]
          simp only [fr, pt, doGood, Act.put, List.setIfInBounds_toArray, List.set_cons_zero, List.set_cons_succ] at hk'
          refine wpAnyZ_take (i := 14) (v := ?_) rfl (by kernel_rfl) (by kernel_rfl) (by kernel_rfl) (by kernel_rfl) (fun _ _ _ h => h) (Or.inl ⟨by rfl, ?_⟩) hS ?_
          rotate_left
          · (intro w hSw; (try dsimp only at hSw); (try simp only [List.getElem_toArray, List.getElem_cons_zero, List.getElem_cons_succ]); go_simp; try with_reducible rfl)
          (try simp only [List.getElem_toArray, List.getElem_cons_zero, List.getElem_cons_succ, Act.put, List.setIfInBounds_toArray, List.set_cons_zero, List.set_cons_succ])
          refine wpAnyZ_take (i := 15) (v := ?_) rfl (by kernel_rfl) (by kernel_rfl) (by kernel_rfl) (by kernel_rfl) (fun _ _ _ h => h) (Or.inl ⟨by rfl, ?_⟩) hS ?_
          rotate_left
          · (intro w hSw; (try dsimp only at hSw); (try simp only [List.getElem_toArray, List.getElem_cons_zero, List.getElem_cons_succ]); go_simp; try with_reducible rfl)
          (try simp only [List.getElem_toArray, List.getElem_cons_zero, List.getElem_cons_succ, Act.put, List.setIfInBounds_toArray, List.set_cons_zero, List.set_cons_succ])
          refine wpAnyZ_take (i := 16) (v := ?_) rfl (by kernel_rfl) (by kernel_rfl) (by kernel_rfl) (by kernel_rfl) (fun _ _ _ h => h) (Or.inl ⟨by rfl, ?_⟩) hS ?_
          rotate_left
          · (intro w hSw; (try dsimp only at hSw); (try simp only [List.getElem_toArray, List.getElem_cons_zero, List.getElem_cons_succ]); go_simp; try with_reducible rfl)
          (try simp only [List.getElem_toArray, List.getElem_cons_zero, List.getElem_cons_succ, Act.put, List.setIfInBounds_toArray, List.set_cons_zero, List.set_cons_succ])
          refine wpAnyZ_take (i := 17) (v := ?_) rfl (by kernel_rfl) (by kernel_rfl) (by kernel_rfl) (by kernel_rfl) (fun _ _ _ h => h) (Or.inl ⟨by rfl, ?_⟩) hS ?_
          rotate_left
          · (intro w hSw; (try dsimp only at hSw); (try simp only [List.getElem_toArray, List.getElem_cons_zero, List.getElem_cons_succ]); go_simp; try with_reducible rfl)
          (try simp only [List.getElem_toArray, List.getElem_cons_zero, List.getElem_cons_succ, Act.put, List.setIfInBounds_toArray, List.set_cons_zero, List.set_cons_succ])
          exact hk'
      case g7 =>
        intro a wc b1 c1 hj hx hy
        obtain ⟨r2, s2, rfl, hw3, hb⟩ := hj
        have hS : wc.cell? ⟨w.heap.size + 1 + 1, 0, none⟩ = some (.slice D Wk.rows.length d) ∧ wc.cell? ⟨w.heap.size + 1 + 1, 1, none⟩ = some (.slice A Wk.ss.length c) ∧ wc.cell? ⟨b, off + k * 4, none⟩ = some (.int .i64 x.kd) ∧ wc.cell? ⟨b, off + k * 4 + 1, none⟩ = some (.int .i64 x.a) ∧ wc.cell? ⟨b, off + k * 4 + 2, none⟩ = some (.int .i64 x.b) ∧ wc.cell? ⟨b, off + k * 4 + 3, none⟩ = some (.int .i64 x.c) := ⟨(hb.cell (p := ⟨w.heap.size + 1 + 1, 0, none⟩) hXw).trans x0, (hb.cell (p := ⟨w.heap.size + 1 + 1, 1, none⟩) hXw).trans x1, (hb.cell (p := ⟨b, off + k * 4, none⟩) hbw).trans d0, (hb.cell (p := ⟨b, off + k * 4 + 1, none⟩) hbw).trans d1, (hb.cell (p := ⟨b, off + k * 4 + 2, none⟩) hbw).trans d2, (hb.cell (p := ⟨b, off + k * 4 + 3, none⟩) hbw).trans d3⟩
        have hB1 := (hx b1 rfl).1
        have hC1 := (hy c1 rfl).1
        have hX1 := zs_row hx
        have hY1 := zs_row hy
        have hbc : b1 ≠ c1 := fun e => by have h1 := (hx b1 rfl).2; have h2 := (hy c1 rfl).2; rw [e, h2] at h1; injection h1 with h1; injection h1 with _ h1 _; exact absurd h1 (by decide)
        obtain ⟨A2, c2, rfl, _⟩ := hw3.wld.sess.form
        obtain ⟨D2, d2', rfl, _⟩ := hw3.wld.rows.form
        have HX1 := Lib.hid hX1
        have HY1 := Lib.hid hY1
        have HW3 := Lib.hid hw3
        have HBL := Lib.hid hb
        obtain ⟨z0, z1⟩ := cells2 hX1
        have f0 := hX1.frozen 0
        have f1 := hX1.frozen 1
        have HY2 := Lib.hid (hY1.oth2 hbc (.slice D2 q.1.rows.length d2') (.slice A2 q.1.ss.length c2))
        have nb0 : b1 ≠ w.heap.size + 1 + 1 := by omega
        have nb1 : b1 ≠ b := by omega
        have nc0 : c1 ≠ w.heap.size + 1 + 1 := by omega
        have nc1 : c1 ≠ b := by omega
        clear hX1 hY1 hx hy hw3
        simp only [fr, pt, doGood, Act.put, List.setIfInBounds_toArray, List.set_cons_zero, List.set_cons_succ]
        refine wpAnyZ_one (i := 20) rfl rfl (by kernel_rfl) (fun K hK => ?_)
        (try simp only [List.getElem_toArray, List.getElem_cons_zero, List.getElem_cons_succ])
        go_simp
        have hS2 := (show ((wc.setCell ⟨b1, 0, none⟩ (.slice D2 q.1.rows.length d2')).setCell ⟨b1, 1, none⟩ (.slice A2 q.1.ss.length c2)).cell? ⟨w.heap.size + 1 + 1, 0, none⟩ = some (.slice D Wk.rows.length d) ∧ ((wc.setCell ⟨b1, 0, none⟩ (.slice D2 q.1.rows.length d2')).setCell ⟨b1, 1, none⟩ (.slice A2 q.1.ss.length c2)).cell? ⟨w.heap.size + 1 + 1, 1, none⟩ = some (.slice A Wk.ss.length c) ∧ ((wc.setCell ⟨b1, 0, none⟩ (.slice D2 q.1.rows.length d2')).setCell ⟨b1, 1, none⟩ (.slice A2 q.1.ss.length c2)).cell? ⟨b, off + k * 4, none⟩ = some (.int .i64 x.kd) ∧ ((wc.setCell ⟨b1, 0, none⟩ (.slice D2 q.1.rows.length d2')).setCell ⟨b1, 1, none⟩ (.slice A2 q.1.ss.length c2)).cell? ⟨b, off + k * 4 + 1, none⟩ = some (.int .i64 x.a) ∧ ((wc.setCell ⟨b1, 0, none⟩ (.slice D2 q.1.rows.length d2')).setCell ⟨b1, 1, none⟩ (.slice A2 q.1.ss.length c2)).cell? ⟨b, off + k * 4 + 2, none⟩ = some (.int .i64 x.b) ∧ ((wc.setCell ⟨b1, 0, none⟩ (.slice D2 q.1.rows.length d2')).setCell ⟨b1, 1, none⟩ (.slice A2 q.1.ss.length c2)).cell? ⟨b, off + k * 4 + 3, none⟩ = some (.int .i64 x.c) from ⟨cell_sty (p := ⟨b1, 1, none⟩) nb0 (cell_sty (p := ⟨b1, 0, none⟩) nb0 hS.1), cell_sty (p := ⟨b1, 1, none⟩) nb0 (cell_sty (p := ⟨b1, 0, none⟩) nb0 hS.2.1), cell_sty (p := ⟨b1, 1, none⟩) nb1 (cell_sty (p := ⟨b1, 0, none⟩) nb1 hS.2.2.1), cell_sty (p := ⟨b1, 1, none⟩) nb1 (cell_sty (p := ⟨b1, 0, none⟩) nb1 hS.2.2.2.1), cell_sty (p := ⟨b1, 1, none⟩) nb1 (cell_sty (p := ⟨b1, 0, none⟩) nb1 hS.2.2.2.2.1), cell_sty (p := ⟨b1, 1, none⟩) nb1 (cell_sty (p := ⟨b1, 0, none⟩) nb1 hS.2.2.2.2.2)⟩)
        refine hK.out _ _ hS2 ?_
        clear hK K hS
        have hS := hS2
        clear hS2
        (try simp only [List.getElem_toArray, List.getElem_cons_zero, List.getElem_cons_succ, Act.put, List.setIfInBounds_toArray, List.set_cons_zero, List.set_cons_succ])
        obtain ⟨p0, p1, p2⟩ := cells3 HY2.out
        have g0 := HY2.out.frozen 0
        have g1 := HY2.out.frozen 1
        have g2 := HY2.out.frozen 2
        refine wpAnyZ_one (i := 21) rfl rfl (by kernel_rfl) (fun K hK => ?_)
        (try simp only [List.getElem_toArray, List.getElem_cons_zero, List.getElem_cons_succ])
        go_simp
        have hS2 := (show (((((wc.setCell ⟨b1, 0, none⟩ (.slice D2 q.1.rows.length d2')).setCell ⟨b1, 1, none⟩ (.slice A2 q.1.ss.length c2)).setCell ⟨c1, 0, none⟩ (.int .i64 q.2.kind)).setCell ⟨c1, 1, none⟩ (.string q.2.text)).setCell ⟨c1, 2, none⟩ (.int .i64 st)).cell? ⟨w.heap.size + 1 + 1, 0, none⟩ = some (.slice D Wk.rows.length d) ∧ (((((wc.setCell ⟨b1, 0, none⟩ (.slice D2 q.1.rows.length d2')).setCell ⟨b1, 1, none⟩ (.slice A2 q.1.ss.length c2)).setCell ⟨c1, 0, none⟩ (.int .i64 q.2.kind)).setCell ⟨c1, 1, none⟩ (.string q.2.text)).setCell ⟨c1, 2, none⟩ (.int .i64 st)).cell? ⟨w.heap.size + 1 + 1, 1, none⟩ = some (.slice A Wk.ss.length c) ∧ (((((wc.setCell ⟨b1, 0, none⟩ (.slice D2 q.1.rows.length d2')).setCell ⟨b1, 1, none⟩ (.slice A2 q.1.ss.length c2)).setCell ⟨c1, 0, none⟩ (.int .i64 q.2.kind)).setCell ⟨c1, 1, none⟩ (.string q.2.text)).setCell ⟨c1, 2, none⟩ (.int .i64 st)).cell? ⟨b, off + k * 4, none⟩ = some (.int .i64 x.kd) ∧ (((((wc.setCell ⟨b1, 0, none⟩ (.slice D2 q.1.rows.length d2')).setCell ⟨b1, 1, none⟩ (.slice A2 q.1.ss.length c2)).setCell ⟨c1, 0, none⟩ (.int .i64 q.2.kind)).setCell ⟨c1, 1, none⟩ (.string q.2.text)).setCell ⟨c1, 2, none⟩ (.int .i64 st)).cell? ⟨b, off + k * 4 + 1, none⟩ = some (.int .i64 x.a) ∧ (((((wc.setCell ⟨b1, 0, none⟩ (.slice D2 q.1.rows.length d2')).setCell ⟨b1, 1, none⟩ (.slice A2 q.1.ss.length c2)).setCell ⟨c1, 0, none⟩ (.int .i64 q.2.kind)).setCell ⟨c1, 1, none⟩ (.string q.2.text)).setCell ⟨c1, 2, none⟩ (.int .i64 st)).cell? ⟨b, off + k * 4 + 2, none⟩ = some (.int .i64 x.b) ∧ (((((wc.setCell ⟨b1, 0, none⟩ (.slice D2 q.1.rows.length d2')).setCell ⟨b1, 1, none⟩ (.slice A2 q.1.ss.length c2)).setCell ⟨c1, 0, none⟩ (.int .i64 q.2.kind)).setCell ⟨c1, 1, none⟩ (.string q.2.text)).setCell ⟨c1, 2, none⟩ (.int .i64 st)).cell? ⟨b, off + k * 4 + 3, none⟩ = some (.int .i64 x.c) from ⟨cell_sty (p := ⟨c1, 2, none⟩) nc0 (cell_sty (p := ⟨c1, 1, none⟩) nc0 (cell_sty (p := ⟨c1, 0, none⟩) nc0 hS.1)), cell_sty (p := ⟨c1, 2, none⟩) nc0 (cell_sty (p := ⟨c1, 1, none⟩) nc0 (cell_sty (p := ⟨c1, 0, none⟩) nc0 hS.2.1)), cell_sty (p := ⟨c1, 2, none⟩) nc1 (cell_sty (p := ⟨c1, 1, none⟩) nc1 (cell_sty (p := ⟨c1, 0, none⟩) nc1 hS.2.2.1)), cell_sty (p := ⟨c1, 2, none⟩) nc1 (cell_sty (p := ⟨c1, 1, none⟩) nc1 (cell_sty (p := ⟨c1, 0, none⟩) nc1 hS.2.2.2.1)), cell_sty (p := ⟨c1, 2, none⟩) nc1 (cell_sty (p := ⟨c1, 1, none⟩) nc1 (cell_sty (p := ⟨c1, 0, none⟩) nc1 hS.2.2.2.2.1)), cell_sty (p := ⟨c1, 2, none⟩) nc1 (cell_sty (p := ⟨c1, 1, none⟩) nc1 (cell_sty (p := ⟨c1, 0, none⟩) nc1 hS.2.2.2.2.2))⟩)
        refine hK.out _ _ hS2 ?_
        clear hK K hS
        have hS := hS2
        clear hS2
        (try simp only [List.getElem_toArray, List.getElem_cons_zero, List.getElem_cons_succ, Act.put, List.setIfInBounds_toArray, List.set_cons_zero, List.set_cons_succ])
        refine wpAnyZ_last rfl rfl (by kernel_rfl) (by kernel_rfl) (fun K hK => ?_)
        (try simp only [List.getElem_toArray, List.getElem_cons_zero, List.getElem_cons_succ])
        go_simp
        refine hK.out _ _ ?_
        clear hK K
        (try simp only [List.getElem_toArray, List.getElem_cons_zero, List.getElem_cons_succ, Act.put, List.setIfInBounds_toArray, List.set_cons_zero, List.set_cons_succ])
        have H9 := Lib.hid (new_at (a := q.2) (st := st) HX1.out HY1.out HW3.out HBL.out hB1 hC1 hbc)
        clear hS z0 z1 f0 f1 p0 p1 p2 g0 g1 g2 HY2 nb0 nb1 nc0 nc1 hbc hB1 hC1 HX1 HY1 HW3 HBL hb x0 x1 d0 d1 d2 d3
        generalize (((((wc.setCell ⟨b1, 0, none⟩ (.slice D2 q.1.rows.length d2')).setCell ⟨b1, 1, none⟩ (.slice A2 q.1.ss.length c2)).setCell ⟨c1, 0, none⟩ (.int .i64 q.2.kind)).setCell ⟨c1, 1, none⟩ (.string q.2.text)).setCell ⟨c1, 2, none⟩ (.int .i64 st)) = W9 at *
        obtain ⟨b0, b1'⟩ := cells2 H9.out.b
        obtain ⟨a0, a1, a2⟩ := cells3 H9.out.c
        have hX9 := HRR.out.X.below H9.out.bel hXw
        obtain ⟨x0, x1⟩ := cells2 hX9
        have f0 := hX9.frozen 0
        have f1 := hX9.frozen 1
        have hzb := H9.out.lb
        have hzc := H9.out.lc
        have hz9 := H9.out.bel.size
        have hlb := H9.out.b.lt
        have hlc := H9.out.c.lt
        have hne := H9.out.ne
        have c9 := (H9.out.c.oth2 (R := w.heap.size + 1 + 1) (by omega) (.slice D2 q.1.rows.length d2') (.slice A2 q.1.ss.length c2))
        obtain ⟨e0, e1, e2⟩ := cells3 c9
        obtain ⟨ys, hox⟩ := HRR.out.own
        have HOX := Lib.hid (own_setP (X := w.heap.size + 1 + 1) (j := 1) (u := .slice A2 q.1.ss.length c2) (own_setP (X := w.heap.size + 1 + 1) (j := 0) (u := .slice D2 q.1.rows.length d2') (own_belP hox H9.out.bel) (by omega)) (by omega))
        clear hX9 hox c9
        go_wp2_with (at_builtin; refine wpList_append_lies _ rfl _ _ 39 rfl (w.heap.size + 1 + 1 + 1) 30 i0 _ 3 32 Tryd.underlying39 HI.out.1 HI.out.2.1 HI.out.2.2.1 HI.out.2.2.2 rfl (by omega) _ k ys rfl (HOX.out.alloc _) ⟨W9.heap.size, 0, none⟩ 1 1 [.int .i64 q.2.kind, .string q.2.text, .int .i64 st] rfl rfl (by intro jj uu hh; rw [Addr.add_lit, Nat.zero_add, World.cell?_alloc_at _ _ _ _ (by simp [World.setCell])]; simpa using hh) (by simp [Value.oneCell']) (by omega) (by unfold maxLen; omega) (by omega) (by simp [World.setCell]; omega) (W9.heap.size + 1) (by simp [World.setCell]) ?_; intro gg cap w5 hown5 hgrow hat hlt5)
        go_roundw
        case rel => exact ⟨k + 1, by omega, by omega, by go_num, _, _, by rw [HS1.out]; exact HRR.out.round H9.out hown5 hgrow hat⟩
        case measure => simp [intOf]; omega
    · have HTK := Lib.hid (show playM n (zeroW n) (l.take m) = playM n (zeroW n) (l.take k) by
        by_cases h1 : k < l.length
        · rw [show k = m by omega]
        · rw [List.take_of_length_le (show l.length ≤ m by omega), List.take_of_length_le (show l.length ≤ k by omega)])
      obtain ⟨x0, x1⟩ := cells2 hR.X
      obtain ⟨r0, r1⟩ := cells2 hR.R
      have f0 := hR.R.frozen 0
      have f1 := hR.R.frozen 1
      have hfin := HRR.out.fin
      have HF := Lib.hid hfin
      clear hR hfin
      by_cases h1 : k < l.length
      · have h2 : ¬ k < m := fun h => hlt ⟨h1, h⟩
        clear hlt
        go_wp2
        refine bodyPost_ret (v := .tuple #[.agg #[.slice D (playM n (zeroW n) (l.take k)).rows.length d, .slice A (playM n (zeroW n) (l.take k)).ss.length c], _, .bool true]) (by simp [results, Tryd.results13, go_sem, r0, r1]; rfl) rfl ?_
        rw [HTK.out]
        exact ⟨_, _, _, rfl, HF.out⟩
      · clear hlt
        go_wp2
        refine bodyPost_ret (v := .tuple #[.agg #[.slice D (playM n (zeroW n) (l.take k)).rows.length d, .slice A (playM n (zeroW n) (l.take k)).ss.length c], _, .bool true]) (by simp [results, Tryd.results13, go_sem, r0, r1]; rfl) rfl ?_
        rw [HTK.out]
        exact ⟨_, _, _, rfl, HF.out⟩
end Go.Proofs.YtpbaobmegomfpabDoor

/-
  tillermankeep.said: statements in a session, one by one.
-/
namespace Go.Proofs.YtpbaobmegomfpabDoor
open Go.RowKit
set_option linter.unusedVariables false
set_option linter.unusedSimpArgs false
set_option maxRecDepth 100000

def toR (t : St3) : Req := ⟨t.1, t.2.1, t.2.2⟩
theorem cell_stz {w : World} {p q : Addr} {u v : Value} (hp : p.block ≠ q.block) (h : w.cell? q = some v) : (w.setCell p u).cell? q = some v := (World.cell?_setCell_other _ _ _ _ (fun e => hp (by rw [e]))).trans h
theorem lastM_snoc {i : Nat} {r : Req} : ∀ {l : List Req} {W : Wd} {a : Ans × Int}, lastM i W a (l ++ [r]) = ((doR (saidM i W l) i r).2, ((doR (saidM i W l) i r).1.at i).st)
  | [], W, a => rfl
  | x :: l, W, a => lastM_snoc (l := l) (W := (doR W i x).1)
theorem saidM_snoc {i : Nat} {r : Req} {l : List Req} {W : Wd} : saidM i W (l ++ [r]) = (doR (saidM i W l) i r).1 := by unfold saidM; rw [List.foldl_append]; rfl
theorem said_ok {i : Nat} : ∀ {l : List Req} {W : Wd}, WorldOk W → i < W.ss.length → (∀ r ∈ l, r.ok) → WorldOk (saidM i W l) ∧ (saidM i W l).ss.length = W.ss.length
  | [], W, h, _, _ => ⟨h, rfl⟩
  | r :: l, W, h, hi, hr => by
    have h1 := doR_ok h hi (hr r List.mem_cons_self)
    have := said_ok (l := l) h1.1 (by rw [h1.2]; exact hi) (fun q hq => hr q (List.mem_cons_of_mem _ hq))
    exact ⟨this.1, this.2.trans h1.2⟩
/-- said's blocks at a round's head -/
structure SaidAt (w wr : World) (W : Wd) (a : Ans × Int) (r s : Value) : Prop where
  X : RowTo wr w.heap.size 25 2 [r, s]
  R : RowTo wr (w.heap.size + 1) 25 2 [.slice none 0 0, .slice none 0 0]
  A : RowTo wr (w.heap.size + 1 + 1) 30 3 [.int .i64 0, .string ⟨#[]⟩, .int .i64 0]
  Y : RowTo wr (w.heap.size + 1 + 1 + 1) 30 3 [.int .i64 a.1.kind, .string a.1.text, .int .i64 a.2]
  wld : Wld wr wr.heap.size r s W
  bel : Below w.heap.size w wr
/-- a round -/
theorem SaidAt.round {w wr w2 : World} {W V : Wd} {a b : Ans × Int} {D2 A2 D A : Option Addr} {d2 c2 d c : Nat} {o1 : Obj} (h : SaidAt w wr W a (.slice D W.rows.length d) (.slice A W.ss.length c)) (hb : Below (wr.alloc o1).heap.size (wr.alloc o1) w2) (hw : Wld w2 w2.heap.size (.slice D2 V.rows.length d2) (.slice A2 V.ss.length c2) V) (o2 o3 : Obj) :
    SaidAt w (((((((w2.alloc o2).alloc o3).setCell ⟨w.heap.size, 0, none⟩ (.slice D2 V.rows.length d2)).setCell ⟨w.heap.size, 1, none⟩ (.slice A2 V.ss.length c2)).setCell ⟨w.heap.size + 1 + 1 + 1, 0, none⟩ (.int .i64 b.1.kind)).setCell ⟨w.heap.size + 1 + 1 + 1, 1, none⟩ (.string b.1.text)).setCell ⟨w.heap.size + 1 + 1 + 1, 2, none⟩ (.int .i64 b.2)) V b (.slice D2 V.rows.length d2) (.slice A2 V.ss.length c2) := by
  have al := (Below.refl wr.heap.size wr).alloc (Nat.le_refl _) o1
  have n2 := ((Below.refl w2.heap.size w2).alloc (Nat.le_refl _) o2).alloc (by simp) o3
  have hb' : Below wr.heap.size wr ((w2.alloc o2).alloc o3) := bel_add' (bel_add' al hb al.size) n2 (bel_add' al hb al.size).size
  have X2 := h.X.below hb' h.X.lt
  have R2 := h.R.below hb' h.R.lt
  have A2' := h.A.below hb' h.A.lt
  have Y2 := h.Y.below hb' h.Y.lt
  have w3 := hw.step n2
  refine ⟨(X2.set2 _ _).oth3 (by omega) _ _ _, (R2.oth2 (by omega) _ _).oth3 (by omega) _ _ _, (A2'.oth2 (by omega) _ _).oth3 (by omega) _ _ _, (Y2.oth2 (by omega) _ _).set3 _ _ _, (w3.set2 X2 _ _).set3 (Y2.oth2 (by omega) _ _) _ _ _, ?_⟩
  exact bel_set3 (bel_set2 (bel_add' h.bel hb' h.bel.size) (Nat.le_refl _) _ _) (by omega) _ _ _
theorem SaidAt.drew {w wr : World} {W : Wd} {a : Ans × Int} {r s : Value} (h : SaidAt w wr W a r s) : SaidAt w wr.drew W a r s := ⟨h.X, h.R, h.A, h.Y, h.wld.step ((Below.refl _ _).drew), h.bel.drew⟩
theorem SaidAt.fin {w wr : World} {W : Wd} {a : Ans × Int} {D A : Option Addr} {d c : Nat} (h : SaidAt w wr W a (.slice D W.rows.length d) (.slice A W.ss.length c)) :
    Wld (((((wr.setCell ⟨w.heap.size + 1, 0, none⟩ (.slice D W.rows.length d)).setCell ⟨w.heap.size + 1, 1, none⟩ (.slice A W.ss.length c)).setCell ⟨w.heap.size + 1 + 1, 0, none⟩ (.int .i64 a.1.kind)).setCell ⟨w.heap.size + 1 + 1, 1, none⟩ (.string a.1.text)).setCell ⟨w.heap.size + 1 + 1, 2, none⟩ (.int .i64 a.2))
      (((((wr.setCell ⟨w.heap.size + 1, 0, none⟩ (.slice D W.rows.length d)).setCell ⟨w.heap.size + 1, 1, none⟩ (.slice A W.ss.length c)).setCell ⟨w.heap.size + 1 + 1, 0, none⟩ (.int .i64 a.1.kind)).setCell ⟨w.heap.size + 1 + 1, 1, none⟩ (.string a.1.text)).setCell ⟨w.heap.size + 1 + 1, 2, none⟩ (.int .i64 a.2)).heap.size (.slice D W.rows.length d) (.slice A W.ss.length c) W ∧
    Below w.heap.size w (((((wr.setCell ⟨w.heap.size + 1, 0, none⟩ (.slice D W.rows.length d)).setCell ⟨w.heap.size + 1, 1, none⟩ (.slice A W.ss.length c)).setCell ⟨w.heap.size + 1 + 1, 0, none⟩ (.int .i64 a.1.kind)).setCell ⟨w.heap.size + 1 + 1, 1, none⟩ (.string a.1.text)).setCell ⟨w.heap.size + 1 + 1, 2, none⟩ (.int .i64 a.2)) :=
  ⟨(h.wld.set2 h.R _ _).set3 (h.A.oth2 (by omega) _ _) _ _ _, bel_set3 (bel_set2 h.bel (by omega) _ _) (by omega) _ _ _⟩

set_option maxHeartbeats 4000000 in
theorem said_any (r s : Value) (W : Wd) (i : Nat) (v : Value) (l : List St3) (w : World) (hW : Wld w w.heap.size r s W) (hl : SLst w w.heap.size v l) (hWo : Words w) (hok : WorldOk W) (hi : i < W.ss.length) (hr : ∀ t ∈ l, (toR t).ok) :
    Calls Tryd.prog 18 #[.agg #[r, s], .int .i64 i, v] w fun e w' => ∃ r' s', e = .returned (.tuple #[.agg #[r', s'], .agg #[.int .i64 (lastM i W (⟨0, ⟨#[]⟩⟩, 0) (l.map toR)).1.kind, .string (lastM i W (⟨0, ⟨#[]⟩⟩, 0) (l.map toR)).1.text, .int .i64 (lastM i W (⟨0, ⟨#[]⟩⟩, 0) (l.map toR)).2], .bool true]) ∧
      Wld w' w'.heap.size r' s' (saidM i W (l.map toR)) ∧ Below w.heap.size w w' := by
  obtain ⟨A, c, rfl, hc⟩ := hW.sess.form
  obtain ⟨D, d, rfl, hd⟩ := hW.rows.form
  obtain ⟨E, e, rfl, he⟩ := hl.form
  have HW := Lib.hid hW
  have HL := Lib.hid hl
  have HWo := Lib.hid hWo
  have HOK := Lib.hid hok
  have HR := Lib.hid hr
  have hsm := hl.small
  clear hW hl hWo hok hr
  go_enter Tryd.func18, Tryd.ntmps18
  go_wp2
  go_loopw [18] (fun j wr => ∃ k : Nat, k ≤ l.length ∧ j = .int .i64 k ∧ Hid (∃ r s, SaidAt w wr (saidM i W ((l.take k).map toR)) (lastM i W (⟨0, ⟨#[]⟩⟩, 0) ((l.take k).map toR)) r s)) (fun j _ => l.length - (intOf j).toNat)
  case atStart =>
    have b1 := (Below.refl w.heap.size w).alloc (Nat.le_refl _) (.cells #[.slice D W.rows.length d, .slice A W.ss.length c] 25)
    have b2 := b1.alloc (by simp) (.cells #[.slice none 0 0, .slice none 0 0] 25)
    have b3 := b2.alloc (by simp; omega) (.cells #[.int .i64 0, .string ⟨#[]⟩, .int .i64 0] 30)
    have b4 := b3.alloc (by simp; omega) (.cells #[.int .i64 0, .string ⟨#[]⟩, .int .i64 0] 30)
    have x2 := ((RowTo.whole (w.alloc (.cells #[.slice D W.rows.length d, .slice A W.ss.length c] 25)) #[.slice none 0 0, .slice none 0 0] 25).alloc (.cells #[.int .i64 0, .string ⟨#[]⟩, .int .i64 0] 30)).alloc (.cells #[.int .i64 0, .string ⟨#[]⟩, .int .i64 0] 30)
    have x3 := (RowTo.whole ((w.alloc (.cells #[.slice D W.rows.length d, .slice A W.ss.length c] 25)).alloc (.cells #[.slice none 0 0, .slice none 0 0] 25)) #[.int .i64 0, .string ⟨#[]⟩, .int .i64 0] 30).alloc (.cells #[.int .i64 0, .string ⟨#[]⟩, .int .i64 0] 30)
    have x4 := RowTo.whole (((w.alloc (.cells #[.slice D W.rows.length d, .slice A W.ss.length c] 25)).alloc (.cells #[.slice none 0 0, .slice none 0 0] 25)).alloc (.cells #[.int .i64 0, .string ⟨#[]⟩, .int .i64 0] 30)) #[.int .i64 0, .string ⟨#[]⟩, .int .i64 0] 30
    simp only [World.size_alloc] at x2 x3 x4
    exact ⟨0, by omega, rfl, _, _, (((RowTo.whole w #[.slice D W.rows.length d, .slice A W.ss.length c] _).alloc _).alloc _).alloc _, x2, x3, x4, HW.out.step b4, b4⟩
  case round =>
    obtain ⟨k, hk, rfl, hR⟩ := hrel
    obtain ⟨r, s, hR⟩ := hR.out
    have hokk := said_ok (l := (l.take k).map toR) HOK.out hi (fun q hq => by obtain ⟨t, ht, rfl⟩ := List.mem_map.1 hq; exact HR.out t (List.mem_of_mem_take ht))
    have HRR := Lib.hid hR
    by_cases hlt : k < l.length
    · have hs1 : (l.take (k + 1)).map toR = (l.take k).map toR ++ [toR l[k]] := by rw [List.take_succ_eq_append_getElem hlt, List.map_append]; rfl
      have HS1 := Lib.hid (show saidM i W ((l.take (k + 1)).map toR) = (doR (saidM i W ((l.take k).map toR)) i (toR l[k])).1 by rw [hs1, saidM_snoc])
      have HS2 := Lib.hid (show lastM i W (⟨0, ⟨#[]⟩⟩, 0) ((l.take (k + 1)).map toR) = ((doR (saidM i W ((l.take k).map toR)) i (toR l[k])).2, ((doR (saidM i W ((l.take k).map toR)) i (toR l[k])).1.at i).st) by rw [hs1, lastM_snoc])
      clear hs1
      have hgood := HR.out l[k] (List.getElem_mem hlt)
      generalize saidM i W ((l.take k).map toR) = Wk at *
      generalize lastM i W (⟨0, ⟨#[]⟩⟩, 0) ((l.take k).map toR) = ak at *
      obtain ⟨b, off, rfl, hb, l0, l1, l2⟩ := HL.out.pt hlt
      generalize hx : l[k] = x at *
      obtain ⟨xk, xe, xv⟩ := x
      clear hx
      have bl := hR.bel
      have d0 := (bl.cell (p := ⟨b, off + k * 3, none⟩) hb).trans l0
      have d1 := (bl.cell (p := ⟨b, off + k * 3 + 1, none⟩) hb).trans l1
      have d2 := (bl.cell (p := ⟨b, off + k * 3 + 2, none⟩) hb).trans l2
      simp only at d0 d1 d2
      obtain ⟨A1, c1, rfl, _⟩ := hR.wld.sess.form
      obtain ⟨D1, d1', rfl, _⟩ := hR.wld.rows.form
      obtain ⟨x0, x1⟩ := cells2 hR.X
      have hXw := hR.X.lt
      have hYw := hR.Y.lt
      have hsz := bl.size
      have HG := Lib.hid hgood
      have HOK1 := Lib.hid hokk
      clear hR bl l0 l1 l2 hgood hokk
      go_wp2_with fail
      have al := (Below.refl wr.heap.size wr).alloc (Nat.le_refl _) (.cells #[.int .i64 xk, .string xe, .string xv] 27)
      refine (do_any _ _ Wk i xk xe xv _ (HRR.out.wld.step al) (HWo.out.below (bel_add' HRR.out.bel al HRR.out.bel.size)) HOK1.out.1 (by rw [HOK1.out.2]; exact hi) HG.out).mono ?_
      rintro e1 w2 ⟨r2, s2, rfl, hw2, hb2⟩
      have HV := Lib.hid (show doR Wk i (toR (xk, xe, xv)) = doM Wk i xk xe xv from rfl)
      obtain ⟨q, HQ⟩ : ∃ q, Hid (doM Wk i xk xe xv = q) := ⟨_, Lib.hid rfl⟩
      rw [HV.out, HQ.out] at HS1 HS2
      rw [HQ.out] at hw2 ⊢
      obtain ⟨st, HST⟩ : ∃ st, Hid ((q.1.at i).st = st) := ⟨_, Lib.hid rfl⟩
      rw [HST.out] at HS2 ⊢
      obtain ⟨A2, c2, rfl, _⟩ := hw2.sess.form
      obtain ⟨D2, d2', rfl, _⟩ := hw2.rows.form
      have HW2 := Lib.hid hw2
      have HB2 := Lib.hid hb2
      have hz2 := hb2.size
      simp only [World.size_alloc] at hz2
      clear hw2 hb2 d0 d1 d2 x0 x1 al
      unfold doGood
      go_wp2
      have n2 := ((Below.refl w2.heap.size w2).alloc (Nat.le_refl _) (.cells #[.slice D2 q.1.rows.length d2', .slice A2 q.1.ss.length c2] 25)).alloc (by simp) (.cells #[.int .i64 q.2.kind, .string q.2.text, .int .i64 st] 30)
      have P0 := (RowTo.whole w2 #[.slice D2 q.1.rows.length d2', .slice A2 q.1.ss.length c2] 25).alloc (.cells #[.int .i64 q.2.kind, .string q.2.text, .int .i64 st] 30)
      have P1 := RowTo.whole (w2.alloc (.cells #[.slice D2 q.1.rows.length d2', .slice A2 q.1.ss.length c2] 25)) #[.int .i64 q.2.kind, .string q.2.text, .int .i64 st] 30
      rw [World.size_alloc] at P1
      have hXb := (HRR.out.X.alloc (.cells #[.int .i64 xk, .string xe, .string xv] 27)).below HB2.out (by simp; omega)
      have hYb := (HRR.out.Y.alloc (.cells #[.int .i64 xk, .string xe, .string xv] 27)).below HB2.out (by simp; omega)
      have hX2 := hXb.below n2 hXb.lt
      have hY2 := hYb.below n2 hYb.lt
      obtain ⟨q0, q1⟩ := cells2 P0
      obtain ⟨p0, p1, p2⟩ := cells3 P1
      obtain ⟨x0, x1⟩ := cells2 hX2
      obtain ⟨y0, y1, y2⟩ := cells3 hY2
      have f0 := hX2.frozen 0
      have f1 := hX2.frozen 1
      have g0 := (hY2.oth2 (R := w.heap.size) (by omega) (.slice D2 q.1.rows.length d2') (.slice A2 q.1.ss.length c2)).frozen 0
      have g1 := (hY2.oth2 (R := w.heap.size) (by omega) (.slice D2 q.1.rows.length d2') (.slice A2 q.1.ss.length c2)).frozen 1
      have g2 := (hY2.oth2 (R := w.heap.size) (by omega) (.slice D2 q.1.rows.length d2') (.slice A2 q.1.ss.length c2)).frozen 2
      have e1 : w.heap.size ≠ w2.heap.size := by omega
      have e2 : w.heap.size ≠ w2.heap.size + 1 := by omega
      clear n2 P0 P1 hXb hYb hX2 hY2
      refine wp_region_z 3 (fun wx => wx.cell? ⟨w2.heap.size, 0, none⟩ = some (.slice D2 q.1.rows.length d2') ∧ wx.cell? ⟨w2.heap.size, 1, none⟩ = some (.slice A2 q.1.ss.length c2) ∧ wx.cell? ⟨w2.heap.size + 1, 0, none⟩ = some (.int .i64 q.2.kind) ∧ wx.cell? ⟨w2.heap.size + 1, 1, none⟩ = some (.string q.2.text) ∧ wx.cell? ⟨w2.heap.size + 1, 2, none⟩ = some (.int .i64 st)) (by kernel_rfl) (show ((w2.alloc (.cells #[.slice D2 q.1.rows.length d2', .slice A2 q.1.ss.length c2] 25)).alloc (.cells #[.int .i64 q.2.kind, .string q.2.text, .int .i64 st] 30)).drew.cell? ⟨w2.heap.size, 0, none⟩ = some (.slice D2 q.1.rows.length d2') ∧ ((w2.alloc (.cells #[.slice D2 q.1.rows.length d2', .slice A2 q.1.ss.length c2] 25)).alloc (.cells #[.int .i64 q.2.kind, .string q.2.text, .int .i64 st] 30)).drew.cell? ⟨w2.heap.size, 1, none⟩ = some (.slice A2 q.1.ss.length c2) ∧ ((w2.alloc (.cells #[.slice D2 q.1.rows.length d2', .slice A2 q.1.ss.length c2] 25)).alloc (.cells #[.int .i64 q.2.kind, .string q.2.text, .int .i64 st] 30)).drew.cell? ⟨w2.heap.size + 1, 0, none⟩ = some (.int .i64 q.2.kind) ∧ ((w2.alloc (.cells #[.slice D2 q.1.rows.length d2', .slice A2 q.1.ss.length c2] 25)).alloc (.cells #[.int .i64 q.2.kind, .string q.2.text, .int .i64 st] 30)).drew.cell? ⟨w2.heap.size + 1, 1, none⟩ = some (.string q.2.text) ∧ ((w2.alloc (.cells #[.slice D2 q.1.rows.length d2', .slice A2 q.1.ss.length c2] 25)).alloc (.cells #[.int .i64 q.2.kind, .string q.2.text, .int .i64 st] 30)).drew.cell? ⟨w2.heap.size + 1, 2, none⟩ = some (.int .i64 st) from ⟨q0, q1, p0, p1, p2⟩) (fun hS => ?_)
      refine wpAnyZ_take (i := 0) (v := ?vm0) rfl (by kernel_rfl) (by kernel_rfl) (by kernel_rfl) (by kernel_rfl) (fun _ _ _ h => h) (Or.inl ⟨by rfl, ?ym0⟩) hS ?rm0
      case ym0 => (intro w hSw; (try dsimp only at hSw); (try simp only [List.getElem_toArray, List.getElem_cons_zero, List.getElem_cons_succ]); go_simp; try with_reducible rfl)
      (try simp only [List.getElem_toArray, List.getElem_cons_zero, List.getElem_cons_succ, Act.put, List.setIfInBounds_toArray, List.set_cons_zero, List.set_cons_succ])
      refine wpAnyZ_take (i := 1) (v := ?vm1) rfl (by kernel_rfl) (by kernel_rfl) (by kernel_rfl) (by kernel_rfl) (fun _ _ _ h => h) (Or.inl ⟨by rfl, ?ym1⟩) hS ?rm1
      case ym1 => (intro w hSw; (try dsimp only at hSw); (try simp only [List.getElem_toArray, List.getElem_cons_zero, List.getElem_cons_succ]); go_simp; try with_reducible rfl)
      (try simp only [List.getElem_toArray, List.getElem_cons_zero, List.getElem_cons_succ, Act.put, List.setIfInBounds_toArray, List.set_cons_zero, List.set_cons_succ])
      refine wpAnyZ_one (i := 2) rfl rfl (by kernel_rfl) (fun K hK => ?_)
      (try simp only [List.getElem_toArray, List.getElem_cons_zero, List.getElem_cons_succ])
      go_simp
      have hS2 := (show ((((w2.alloc (.cells #[.slice D2 q.1.rows.length d2', .slice A2 q.1.ss.length c2] 25)).alloc (.cells #[.int .i64 q.2.kind, .string q.2.text, .int .i64 st] 30)).drew.setCell ⟨w.heap.size, 0, none⟩ (.slice D2 q.1.rows.length d2')).setCell ⟨w.heap.size, 1, none⟩ (.slice A2 q.1.ss.length c2)).cell? ⟨w2.heap.size, 0, none⟩ = some (.slice D2 q.1.rows.length d2') ∧ ((((w2.alloc (.cells #[.slice D2 q.1.rows.length d2', .slice A2 q.1.ss.length c2] 25)).alloc (.cells #[.int .i64 q.2.kind, .string q.2.text, .int .i64 st] 30)).drew.setCell ⟨w.heap.size, 0, none⟩ (.slice D2 q.1.rows.length d2')).setCell ⟨w.heap.size, 1, none⟩ (.slice A2 q.1.ss.length c2)).cell? ⟨w2.heap.size, 1, none⟩ = some (.slice A2 q.1.ss.length c2) ∧ ((((w2.alloc (.cells #[.slice D2 q.1.rows.length d2', .slice A2 q.1.ss.length c2] 25)).alloc (.cells #[.int .i64 q.2.kind, .string q.2.text, .int .i64 st] 30)).drew.setCell ⟨w.heap.size, 0, none⟩ (.slice D2 q.1.rows.length d2')).setCell ⟨w.heap.size, 1, none⟩ (.slice A2 q.1.ss.length c2)).cell? ⟨w2.heap.size + 1, 0, none⟩ = some (.int .i64 q.2.kind) ∧ ((((w2.alloc (.cells #[.slice D2 q.1.rows.length d2', .slice A2 q.1.ss.length c2] 25)).alloc (.cells #[.int .i64 q.2.kind, .string q.2.text, .int .i64 st] 30)).drew.setCell ⟨w.heap.size, 0, none⟩ (.slice D2 q.1.rows.length d2')).setCell ⟨w.heap.size, 1, none⟩ (.slice A2 q.1.ss.length c2)).cell? ⟨w2.heap.size + 1, 1, none⟩ = some (.string q.2.text) ∧ ((((w2.alloc (.cells #[.slice D2 q.1.rows.length d2', .slice A2 q.1.ss.length c2] 25)).alloc (.cells #[.int .i64 q.2.kind, .string q.2.text, .int .i64 st] 30)).drew.setCell ⟨w.heap.size, 0, none⟩ (.slice D2 q.1.rows.length d2')).setCell ⟨w.heap.size, 1, none⟩ (.slice A2 q.1.ss.length c2)).cell? ⟨w2.heap.size + 1, 2, none⟩ = some (.int .i64 st) from ⟨cell_stz (p := ⟨w.heap.size, 1, none⟩) e1 (cell_stz (p := ⟨w.heap.size, 0, none⟩) e1 hS.1), cell_stz (p := ⟨w.heap.size, 1, none⟩) e1 (cell_stz (p := ⟨w.heap.size, 0, none⟩) e1 hS.2.1), cell_stz (p := ⟨w.heap.size, 1, none⟩) e2 (cell_stz (p := ⟨w.heap.size, 0, none⟩) e2 hS.2.2.1), cell_stz (p := ⟨w.heap.size, 1, none⟩) e2 (cell_stz (p := ⟨w.heap.size, 0, none⟩) e2 hS.2.2.2.1), cell_stz (p := ⟨w.heap.size, 1, none⟩) e2 (cell_stz (p := ⟨w.heap.size, 0, none⟩) e2 hS.2.2.2.2)⟩)
      refine hK.out _ _ hS2 ?_
      clear hK K hS
      have hS := hS2
      clear hS2
      (try simp only [List.getElem_toArray, List.getElem_cons_zero, List.getElem_cons_succ, Act.put, List.setIfInBounds_toArray, List.set_cons_zero, List.set_cons_succ])
      refine wpAnyZ_last rfl rfl (by kernel_rfl) (by kernel_rfl) (fun K hK => ?_)
      (try simp only [List.getElem_toArray, List.getElem_cons_zero, List.getElem_cons_succ])
      go_simp
      refine hK.out _ _ ?_
      clear hK K
      (try simp only [List.getElem_toArray, List.getElem_cons_zero, List.getElem_cons_succ, Act.put, List.setIfInBounds_toArray, List.set_cons_zero, List.set_cons_succ])
      clear hS q0 q1 p0 p1 p2 x0 x1 y0 y1 y2 f0 f1 g0 g1 g2 e1 e2
      go_wp2
      go_roundw
      case rel =>
        refine ⟨k + 1, by omega, by go_num, .slice D2 q.1.rows.length d2', .slice A2 q.1.ss.length c2, ?_⟩
        rw [HS1.out, HS2.out]
        exact (HRR.out.round (b := (q.2, st)) HB2.out HW2.out _ _).drew
      case measure => simp [intOf]; omega
    · obtain rfl : k = l.length := by omega
      rw [List.take_of_length_le (Nat.le_refl _)] at HRR hR
      obtain ⟨Wk, HWk⟩ : ∃ x, Hid (saidM i W (l.map toR) = x) := ⟨_, Lib.hid rfl⟩
      obtain ⟨ak, HAk⟩ : ∃ x, Hid (lastM i W (⟨0, ⟨#[]⟩⟩, 0) (l.map toR) = x) := ⟨_, Lib.hid rfl⟩
      rw [HWk.out, HAk.out] at HRR hR
      obtain ⟨A1, c1, rfl, _⟩ := hR.wld.sess.form
      obtain ⟨D1, d1', rfl, _⟩ := hR.wld.rows.form
      obtain ⟨x0, x1⟩ := cells2 hR.X
      obtain ⟨y0, y1, y2⟩ := cells3 hR.Y
      obtain ⟨r0, r1⟩ := cells2 hR.R
      obtain ⟨a0, a1, a2⟩ := cells3 hR.A
      have f0 := hR.R.frozen 0
      have f1 := hR.R.frozen 1
      have g0 := hR.A.frozen 0
      have g1 := hR.A.frozen 1
      have g2 := hR.A.frozen 2
      clear hR hokk
      go_wp2
      have e1 : w.heap.size + 1 ≠ w.heap.size := by omega
      have e2 : w.heap.size + 1 ≠ w.heap.size + 1 + 1 + 1 := by omega
      have e3 : w.heap.size + 1 + 1 ≠ w.heap.size := by omega
      have e4 : w.heap.size + 1 + 1 ≠ w.heap.size + 1 + 1 + 1 := by omega
      refine wp_region_z 4 (fun wx => wx.cell? ⟨w.heap.size, 0, none⟩ = some (.slice D1 Wk.rows.length d1') ∧ wx.cell? ⟨w.heap.size, 1, none⟩ = some (.slice A1 Wk.ss.length c1) ∧ wx.cell? ⟨w.heap.size + 1 + 1 + 1, 0, none⟩ = some (.int .i64 ak.1.kind) ∧ wx.cell? ⟨w.heap.size + 1 + 1 + 1, 1, none⟩ = some (.string ak.1.text) ∧ wx.cell? ⟨w.heap.size + 1 + 1 + 1, 2, none⟩ = some (.int .i64 ak.2)) (by kernel_rfl) (show wr.drew.cell? ⟨w.heap.size, 0, none⟩ = some (.slice D1 Wk.rows.length d1') ∧ wr.drew.cell? ⟨w.heap.size, 1, none⟩ = some (.slice A1 Wk.ss.length c1) ∧ wr.drew.cell? ⟨w.heap.size + 1 + 1 + 1, 0, none⟩ = some (.int .i64 ak.1.kind) ∧ wr.drew.cell? ⟨w.heap.size + 1 + 1 + 1, 1, none⟩ = some (.string ak.1.text) ∧ wr.drew.cell? ⟨w.heap.size + 1 + 1 + 1, 2, none⟩ = some (.int .i64 ak.2) from ⟨x0, x1, y0, y1, y2⟩) (fun hS => ?_)
      refine wpAnyZ_take (i := 0) (v := ?vn0) rfl (by kernel_rfl) (by kernel_rfl) (by kernel_rfl) (by kernel_rfl) (fun _ _ _ h => h) (Or.inl ⟨by rfl, ?yn0⟩) hS ?rn0
      case yn0 => (intro w hSw; (try dsimp only at hSw); (try simp only [List.getElem_toArray, List.getElem_cons_zero, List.getElem_cons_succ]); go_simp; try with_reducible rfl)
      (try simp only [List.getElem_toArray, List.getElem_cons_zero, List.getElem_cons_succ, Act.put, List.setIfInBounds_toArray, List.set_cons_zero, List.set_cons_succ])
      refine wpAnyZ_take (i := 1) (v := ?vn1) rfl (by kernel_rfl) (by kernel_rfl) (by kernel_rfl) (by kernel_rfl) (fun _ _ _ h => h) (Or.inl ⟨by rfl, ?yn1⟩) hS ?rn1
      case yn1 => (intro w hSw; (try dsimp only at hSw); (try simp only [List.getElem_toArray, List.getElem_cons_zero, List.getElem_cons_succ]); go_simp; try with_reducible rfl)
      (try simp only [List.getElem_toArray, List.getElem_cons_zero, List.getElem_cons_succ, Act.put, List.setIfInBounds_toArray, List.set_cons_zero, List.set_cons_succ])
      refine wpAnyZ_one (i := 2) rfl rfl (by kernel_rfl) (fun K hK => ?_)
      (try simp only [List.getElem_toArray, List.getElem_cons_zero, List.getElem_cons_succ])
      go_simp
      have hS2 := (show ((wr.drew.setCell ⟨w.heap.size + 1, 0, none⟩ (.slice D1 Wk.rows.length d1')).setCell ⟨w.heap.size + 1, 1, none⟩ (.slice A1 Wk.ss.length c1)).cell? ⟨w.heap.size, 0, none⟩ = some (.slice D1 Wk.rows.length d1') ∧ ((wr.drew.setCell ⟨w.heap.size + 1, 0, none⟩ (.slice D1 Wk.rows.length d1')).setCell ⟨w.heap.size + 1, 1, none⟩ (.slice A1 Wk.ss.length c1)).cell? ⟨w.heap.size, 1, none⟩ = some (.slice A1 Wk.ss.length c1) ∧ ((wr.drew.setCell ⟨w.heap.size + 1, 0, none⟩ (.slice D1 Wk.rows.length d1')).setCell ⟨w.heap.size + 1, 1, none⟩ (.slice A1 Wk.ss.length c1)).cell? ⟨w.heap.size + 1 + 1 + 1, 0, none⟩ = some (.int .i64 ak.1.kind) ∧ ((wr.drew.setCell ⟨w.heap.size + 1, 0, none⟩ (.slice D1 Wk.rows.length d1')).setCell ⟨w.heap.size + 1, 1, none⟩ (.slice A1 Wk.ss.length c1)).cell? ⟨w.heap.size + 1 + 1 + 1, 1, none⟩ = some (.string ak.1.text) ∧ ((wr.drew.setCell ⟨w.heap.size + 1, 0, none⟩ (.slice D1 Wk.rows.length d1')).setCell ⟨w.heap.size + 1, 1, none⟩ (.slice A1 Wk.ss.length c1)).cell? ⟨w.heap.size + 1 + 1 + 1, 2, none⟩ = some (.int .i64 ak.2) from ⟨cell_stz (p := ⟨w.heap.size + 1, 1, none⟩) e1 (cell_stz (p := ⟨w.heap.size + 1, 0, none⟩) e1 hS.1), cell_stz (p := ⟨w.heap.size + 1, 1, none⟩) e1 (cell_stz (p := ⟨w.heap.size + 1, 0, none⟩) e1 hS.2.1), cell_stz (p := ⟨w.heap.size + 1, 1, none⟩) e2 (cell_stz (p := ⟨w.heap.size + 1, 0, none⟩) e2 hS.2.2.1), cell_stz (p := ⟨w.heap.size + 1, 1, none⟩) e2 (cell_stz (p := ⟨w.heap.size + 1, 0, none⟩) e2 hS.2.2.2.1), cell_stz (p := ⟨w.heap.size + 1, 1, none⟩) e2 (cell_stz (p := ⟨w.heap.size + 1, 0, none⟩) e2 hS.2.2.2.2)⟩)
      refine hK.out _ _ hS2 ?_
      clear hK K hS
      have hS := hS2
      clear hS2
      (try simp only [List.getElem_toArray, List.getElem_cons_zero, List.getElem_cons_succ, Act.put, List.setIfInBounds_toArray, List.set_cons_zero, List.set_cons_succ])
      refine wpAnyZ_one (i := 3) rfl rfl (by kernel_rfl) (fun K hK => ?_)
      (try simp only [List.getElem_toArray, List.getElem_cons_zero, List.getElem_cons_succ])
      go_simp
      have hS2 := (show (((((wr.drew.setCell ⟨w.heap.size + 1, 0, none⟩ (.slice D1 Wk.rows.length d1')).setCell ⟨w.heap.size + 1, 1, none⟩ (.slice A1 Wk.ss.length c1)).setCell ⟨w.heap.size + 1 + 1, 0, none⟩ (.int .i64 ak.1.kind)).setCell ⟨w.heap.size + 1 + 1, 1, none⟩ (.string ak.1.text)).setCell ⟨w.heap.size + 1 + 1, 2, none⟩ (.int .i64 ak.2)).cell? ⟨w.heap.size, 0, none⟩ = some (.slice D1 Wk.rows.length d1') ∧ (((((wr.drew.setCell ⟨w.heap.size + 1, 0, none⟩ (.slice D1 Wk.rows.length d1')).setCell ⟨w.heap.size + 1, 1, none⟩ (.slice A1 Wk.ss.length c1)).setCell ⟨w.heap.size + 1 + 1, 0, none⟩ (.int .i64 ak.1.kind)).setCell ⟨w.heap.size + 1 + 1, 1, none⟩ (.string ak.1.text)).setCell ⟨w.heap.size + 1 + 1, 2, none⟩ (.int .i64 ak.2)).cell? ⟨w.heap.size, 1, none⟩ = some (.slice A1 Wk.ss.length c1) ∧ (((((wr.drew.setCell ⟨w.heap.size + 1, 0, none⟩ (.slice D1 Wk.rows.length d1')).setCell ⟨w.heap.size + 1, 1, none⟩ (.slice A1 Wk.ss.length c1)).setCell ⟨w.heap.size + 1 + 1, 0, none⟩ (.int .i64 ak.1.kind)).setCell ⟨w.heap.size + 1 + 1, 1, none⟩ (.string ak.1.text)).setCell ⟨w.heap.size + 1 + 1, 2, none⟩ (.int .i64 ak.2)).cell? ⟨w.heap.size + 1 + 1 + 1, 0, none⟩ = some (.int .i64 ak.1.kind) ∧ (((((wr.drew.setCell ⟨w.heap.size + 1, 0, none⟩ (.slice D1 Wk.rows.length d1')).setCell ⟨w.heap.size + 1, 1, none⟩ (.slice A1 Wk.ss.length c1)).setCell ⟨w.heap.size + 1 + 1, 0, none⟩ (.int .i64 ak.1.kind)).setCell ⟨w.heap.size + 1 + 1, 1, none⟩ (.string ak.1.text)).setCell ⟨w.heap.size + 1 + 1, 2, none⟩ (.int .i64 ak.2)).cell? ⟨w.heap.size + 1 + 1 + 1, 1, none⟩ = some (.string ak.1.text) ∧ (((((wr.drew.setCell ⟨w.heap.size + 1, 0, none⟩ (.slice D1 Wk.rows.length d1')).setCell ⟨w.heap.size + 1, 1, none⟩ (.slice A1 Wk.ss.length c1)).setCell ⟨w.heap.size + 1 + 1, 0, none⟩ (.int .i64 ak.1.kind)).setCell ⟨w.heap.size + 1 + 1, 1, none⟩ (.string ak.1.text)).setCell ⟨w.heap.size + 1 + 1, 2, none⟩ (.int .i64 ak.2)).cell? ⟨w.heap.size + 1 + 1 + 1, 2, none⟩ = some (.int .i64 ak.2) from ⟨cell_stz (p := ⟨w.heap.size + 1 + 1, 2, none⟩) e3 (cell_stz (p := ⟨w.heap.size + 1 + 1, 1, none⟩) e3 (cell_stz (p := ⟨w.heap.size + 1 + 1, 0, none⟩) e3 hS.1)), cell_stz (p := ⟨w.heap.size + 1 + 1, 2, none⟩) e3 (cell_stz (p := ⟨w.heap.size + 1 + 1, 1, none⟩) e3 (cell_stz (p := ⟨w.heap.size + 1 + 1, 0, none⟩) e3 hS.2.1)), cell_stz (p := ⟨w.heap.size + 1 + 1, 2, none⟩) e4 (cell_stz (p := ⟨w.heap.size + 1 + 1, 1, none⟩) e4 (cell_stz (p := ⟨w.heap.size + 1 + 1, 0, none⟩) e4 hS.2.2.1)), cell_stz (p := ⟨w.heap.size + 1 + 1, 2, none⟩) e4 (cell_stz (p := ⟨w.heap.size + 1 + 1, 1, none⟩) e4 (cell_stz (p := ⟨w.heap.size + 1 + 1, 0, none⟩) e4 hS.2.2.2.1)), cell_stz (p := ⟨w.heap.size + 1 + 1, 2, none⟩) e4 (cell_stz (p := ⟨w.heap.size + 1 + 1, 1, none⟩) e4 (cell_stz (p := ⟨w.heap.size + 1 + 1, 0, none⟩) e4 hS.2.2.2.2))⟩)
      refine hK.out _ _ hS2 ?_
      clear hK K hS
      have hS := hS2
      clear hS2
      (try simp only [List.getElem_toArray, List.getElem_cons_zero, List.getElem_cons_succ, Act.put, List.setIfInBounds_toArray, List.set_cons_zero, List.set_cons_succ])
      refine wpAnyZ_last rfl rfl (by kernel_rfl) (by kernel_rfl) (fun K hK => ?_)
      (try simp only [List.getElem_toArray, List.getElem_cons_zero, List.getElem_cons_succ])
      go_simp
      refine hK.out _ _ ?_
      clear hK K
      (try simp only [List.getElem_toArray, List.getElem_cons_zero, List.getElem_cons_succ, Act.put, List.setIfInBounds_toArray, List.set_cons_zero, List.set_cons_succ])
      clear hS
      go_wp2
      refine bodyPost_ret (v := .tuple #[.agg #[.slice D1 Wk.rows.length d1', .slice A1 Wk.ss.length c1], .agg #[.int .i64 ak.1.kind, .string ak.1.text, .int .i64 ak.2], .bool true]) (by simp [results, Tryd.results18, go_sem, r0, r1, a0, a1, a2]) rfl ?_
      rw [HWk.out, HAk.out]
      exact ⟨_, _, rfl, HRR.out.fin.1.step ((Below.refl _ _).drew), HRR.out.fin.2.drew⟩
end Go.Proofs.YtpbaobmegomfpabDoor

/-
  slices.Equal over pairs, where both sides read as the same.
-/
namespace Go.Proofs.YtpbaobmegomfpabDoor
open Go.RowKit
set_option linter.unusedVariables false
set_option maxRecDepth 100000

set_option maxHeartbeats 400000 in
theorem equalP_same (v v' : Value) (l : PL) (w : World) (B : Nat) (hl : Lst w B v l) (hl' : Lst w B v' l) :
    Calls Tryd.prog 17 #[v, v'] w fun e w' => e = .returned (.bool true) ∧ ∃ n, w' = w.drewN n := by
  obtain ⟨A, c, rfl, hc⟩ := hl.form
  obtain ⟨A', c', rfl, hc'⟩ := hl'.form
  have hby := hl.bytes
  have HL := Lib.hid hl
  have HL' := Lib.hid hl'
  have hne : ((l.length : Int) != (l.length : Int)) = false := by simp
  clear hl hl'
  go_enter Tryd.func17, Tryd.ntmps17
  go_wp2
  go_loopw [13] (fun i wr => ∃ k : Nat, k ≤ l.length ∧ i = .int .i64 k ∧ ∃ n, wr = w.drewN n) (fun i _ => l.length - (intOf i).toNat)
  case atStart => exact ⟨0, by omega, rfl, 0, rfl⟩
  case round =>
    obtain ⟨k, hk, rfl, n, rfl⟩ := hrel
    by_cases hlt : k < l.length
    · obtain ⟨b, off, rfl, hb, c0, c1⟩ := HL.out.pt hlt
      obtain ⟨b', off', rfl, hb', c0', c1'⟩ := HL'.out.pt hlt
      go_wp2
      go_quiet (fail)
      go_wp2
      go_roundw
      case rel => exact ⟨k + 1, by omega, by go_num, n + nq, rfl⟩
      case measure => simp [intOf]; omega
    · go_wp2
      go_ret
      exact ⟨rfl, _, rfl⟩
end Go.Proofs.YtpbaobmegomfpabDoor

/-
  From a row's list of variables to the cells of a table of strings.
-/
namespace Go.Proofs.YtpbaobmegomfpabDoor
open Go.RowKit
set_option linter.unusedVariables false

/-- a variable of the list, wherever it stands -/
theorem laid_mem {P : Program} {w : World} {n : String} {d : DataW Unit} : ∀ {l : List (String × DataW Unit)} {ps : List MemPlace}, DataW.LaidVars P w l ps → (n, d) ∈ l →
    ∃ g t cs fuel p, P.globalNamed n = some g ∧ (P.globals[g]?).map (·.type) = some t ∧ w.var? P n = some cs ∧ DataW.trod (fun _ => ()) P w 0 (fun _ => true) false fuel t cs.toList = some (d, p)
  | [], _, _, h => by cases h
  | (m, e) :: l, ps, hl, h => by
    obtain ⟨g, t, cs, fuel, p, q, h1, h2, h3, h4, h5, _⟩ := hl
    rcases List.mem_cons.1 h with he | he
    · cases he
      exact ⟨g, t, cs, fuel, p, h1, h2, h3, h4⟩
    · exact laid_mem h5 he

/-- an array of strings that reads as this list holds it, cell by cell -/
theorem strs_of {P : Program} {w : World} {fuel : Nat} {t e : TypeId} {n : Nat} {cs : List Value} {ss : List (List UInt8)} {p : List MemPlace}
    (ht : P.underlying t = some (.array n e)) (he : P.underlying e = some .string) (hce : P.cellsOf e = 1) (hct : P.cellsOf t = n)
    (h : DataW.trod (fun _ => ()) P w 0 (fun _ => true) false fuel t cs = some (.agg (ss.map fun s => .lit (.string s)), p)) : cs = ss.map fun s => Value.string ⟨s.toArray⟩ := by
  cases fuel with
  | zero => simp [DataW.trod] at h
  | succ fuel =>
    simp only [DataW.trod, ht, hce, hct, Nat.mul_one] at h
    split at h
    · obtain ⟨xs, hm, hx⟩ := Option.map_eq_some_iff.1 h
      have hxs : xs.map (·.1) = ss.map fun s => (DataW.lit (.string s) : DataW Unit) := by
        have := congrArg Prod.fst hx
        simpa using this
      have hxl : xs.length = n := by simpa using Lib.mapM_length hm
      have hzl : ss.length = n := by
        have := congrArg List.length hxs
        simp at this
        omega
      apply List.ext_getElem?
      intro i
      by_cases hi : i < n
      · obtain ⟨b, hb, hf⟩ := Lib.mapM_at hm i i (by simp [hi])
        obtain ⟨z, hc, rfl, _⟩ := DataW.trod_string he hf
        have h1 : cs[i]? = some (.string z) := by
          have := congrArg (·[0]?) hc
          simpa [List.getElem?_take, List.getElem?_drop] using this
        have h2 : (xs.map (·.1))[i]? = some (DataW.lit (.string z.data.toList) : DataW Unit) := by simp [hb]
        rw [hxs] at h2
        simp only [List.getElem?_map, Option.map_eq_some_iff, DataW.lit.injEq, Lit.string.injEq] at h2
        obtain ⟨s, hs, rfl⟩ := h2
        simp [h1, hs]
      · rw [List.getElem?_eq_none (by omega), List.getElem?_eq_none (by simp; omega)]
    · cases h

/-- a table of strings among the variables of a list -/
theorem tab_of {P : Program} {w : World} {n : String} {l : List (String × DataW Unit)} {ss : List (List UInt8)} {g : Nat} {t e : TypeId} {m : Nat}
    (hg : P.globalNamed n = some g) (hty : (P.globals[g]?).map (·.type) = some t) (ht : P.underlying t = some (.array m e)) (he : P.underlying e = some .string) (hce : P.cellsOf e = 1) (hct : P.cellsOf t = m)
    (h : laidMet P l w) (hin : (n, DataW.agg (ss.map fun s => .lit (.string s))) ∈ l) : g < w.heap.size ∧ ∀ i, i < ss.length → w.cell? ⟨g, i, none⟩ = some (.string ⟨(ss.getD i []).toArray⟩) := by
  obtain ⟨ps, hl, _⟩ := h
  obtain ⟨g', t', cs, fuel, p, h1, h2, h3, h4⟩ := laid_mem hl hin
  obtain rfl := Option.some.inj (hg.symm.trans h1)
  obtain rfl := Option.some.inj (hty.symm.trans h2)
  have hcs := strs_of ht he hce hct h4
  refine ⟨?_, fun i hi => ?_⟩
  · simp only [World.var?, hg, Option.bind_some] at h3
    split at h3
    · rename_i hh
      exact (Array.getElem?_eq_some_iff.1 hh).1
    · cases h3
  · rw [World.var?_cell hg h3 i]
    have : cs[i]? = cs.toList[i]? := by simp
    rw [this, hcs]
    simp [List.getD, hi]

end Go.Proofs.YtpbaobmegomfpabDoor

/-
  The table of the words, out of a row's list.
-/
namespace Go.Proofs.YtpbaobmegomfpabDoor
open Go.RowKit
set_option linter.unusedVariables false

theorem words_of {l : List (String × DataW Unit)} {w : World} (h : laidMet Tryd.prog l w) (hin : ("tillerman/say.words", DataW.agg ((List.range 12).map fun k => .lit (.string (wordL k)))) ∈ l) : Words w := by
  have h2 : ("tillerman/say.words", DataW.agg (((List.range 12).map wordL).map fun s => .lit (.string s))) ∈ l := by
    rw [List.map_map]; exact hin
  obtain ⟨h3, h4⟩ := tab_of (P := Tryd.prog) (g := 0) (t := 110) (e := 9) (m := 12) (by kernel_rfl) (by kernel_rfl) Tryd.underlying110 Tryd.underlying9 (by kernel_rfl) (by kernel_rfl) h h2
  refine ⟨h3, fun k hk => ?_⟩
  rw [h4 k (by simp; omega)]
  have : ((List.range 12).map wordL).getD k [] = wordL k := by
    simp [List.getD, show k < 12 by omega]
  rw [this]; rfl

end Go.Proofs.YtpbaobmegomfpabDoor

/-
  Plain mathematics: a client that is served alone; what all steps keep.
-/
namespace Go.Proofs.YtpbaobmegomfpabDoor
open Go.RowKit
set_option linter.unusedVariables false

/-- the world, what was sent, what was done -/
structure D where
  w : Wd
  sent : List ByteArray
  deeds : List Deed
def D.tell (d : D) (c : Nat) (a : Ans) (st : Int) : D := { d with sent := d.sent.set c (d.sent.getD c ⟨#[]⟩ ++ ansM a st) }
/-- one request of a client that has a session of its own -/
def D.one (mode : Int) (c : Nat) (d : D) (r : Req) : D :=
  if refB mode r then d.tell c ⟨4, refuse mode r⟩ (d.w.at c).st
  else D.tell ⟨(doM d.w c r.k r.key r.val).1, d.sent, d.deeds ++ [⟨c, r, (doM d.w c r.k r.key r.val).2, ((doM d.w c r.k r.key r.val).1.at c).st⟩]⟩ c (doM d.w c r.k r.key r.val).2 ((doM d.w c r.k r.key r.val).1.at c).st
def Mach.d (m : Mach Wd) : D := ⟨m.e, m.sent, m.deeds⟩
section
variable {m : Mach Wd} {mode : Int} {c : Nat}
theorem proc_d {r : Req} {l : List Req} (hw : (m.get c).wait = r :: l) : (m.proc houseO mode c).d = m.d.one mode c r := by
  unfold Mach.proc D.one
  rw [hw]
  simp only
  by_cases hf : refB mode r = true
  · rw [if_pos hf, if_pos hf]; rfl
  · rw [if_neg hf, if_neg hf]
    split <;> rfl
theorem proc_busy {r : Req} {l : List Req} (hw : (m.get c).wait = r :: l) : (m.proc houseO mode c).busy = m.busy ∨ (m.proc houseO mode c).busy = m.busy.set ((m.get c).srv.getD 0) false := by
  unfold Mach.proc
  rw [hw]
  simp only
  by_cases hf : refB mode r = true
  · rw [if_pos hf]; exact .inl rfl
  · rw [if_neg hf]
    split
    · exact .inr rfl
    · exact .inl rfl
/-- the client behind a request: a request less; it keeps its server, or (the session is Idle) gives it back -/
theorem proc_cl (hc : c < m.cl.length) {r : Req} {l : List Req} (hw : (m.get c).wait = r :: l) (d : Nat) : (m.proc houseO mode c).get d = (if c = d then { m.get c with wait := l, srv := if refB mode r = false ∧ mode ≠ 1 ∧ ((m.proc houseO mode c).e.at c).st = 0 then none else (m.get c).srv } else m.get d) := by
  have hg : ∀ (q : Mach Wd) x, q.cl = m.cl.set c x → q.get d = if c = d then x else m.get d := fun q x hq => by unfold Mach.get; rw [hq]; exact get_cl hc
  unfold Mach.proc
  rw [hw]
  simp only
  by_cases hf : refB mode r = true
  · rw [if_pos hf, hg _ { m.get c with wait := l } rfl, hf]
    by_cases e : c = d
    · rw [if_pos e, if_pos e]; simp
    · rw [if_neg e, if_neg e]
  · rw [if_neg hf]
    have hf' : refB mode r = false := by simpa using hf
    generalize hx : houseO.exec m.e c ((m.get c).srv.getD 0) r = x
    have hst : x.2.2 = (x.1.at c).st := by rw [← hx]; rfl
    by_cases hm : mode ≠ 1 ∧ x.2.2 = 0
    · rw [if_pos hm]
      have e1 : (Mach.release houseO (Mach.tell { m.set c { m.get c with wait := l } with e := x.1, deeds := m.deeds ++ [⟨c, r, x.2.1, x.2.2⟩] } c x.2.1 x.2.2) c ((m.get c).srv.getD 0)).cl = m.cl.set c { m.get c with wait := l, srv := none } := by
        show (m.cl.set c _).set c _ = _
        rw [List.set_set]
        show m.cl.set c { (m.set c { m.get c with wait := l }).get c with srv := none } = _
        rw [get_set hc, if_pos rfl]
      rw [hg _ _ e1]
      by_cases e : c = d
      · rw [if_pos e, if_pos e, if_pos ⟨hf', hm.1, by show (x.1.at c).st = 0; rw [← hst]; exact hm.2⟩]
      · rw [if_neg e, if_neg e]
    · rw [if_neg hm, hg _ { m.get c with wait := l } rfl]
      by_cases e : c = d
      · rw [if_pos e, if_pos e, if_neg (fun hh => hm ⟨hh.2.1, by rw [hst]; exact hh.2.2⟩)]
      · rw [if_neg e, if_neg e]
theorem proc_line' : (m.proc houseO mode c).line = m.line := by
  unfold Mach.proc
  split
  · rfl
  · simp only
    split
    · rfl
    · split <;> rfl

def canServe (m : Mach Wd) (c : Nat) : Prop := (m.get c).srv.isSome = true ∨ false ∈ m.busy
/-- client c alone may wait, and can be served -/
structure Lone (m : Mach Wd) (c : Nat) : Prop where
  line : m.line = []
  oth : ∀ d, d ≠ c → (m.get d).wait = []
  can : canServe m c
/-- a client with a server is in a transaction, or its first request needs one -/
def Needs (mode : Int) (m : Mach Wd) (c : Nat) : Prop := (m.get c).srv.isSome = true → (m.e.at c).st ≠ 0 ∨ ∃ r l, (m.get c).wait = r :: l ∧ refB mode r = false
/-- c has been served -/
structure Served (mode : Int) (m : Mach Wd) (c : Nat) (r : Mach Wd) : Prop where
  d : r.d = (m.get c).wait.foldl (D.one mode c) m.d
  wait : ∀ x, (r.get x).wait = []
  line : r.line = []
  oth : ∀ x, x ≠ c → r.get x = m.get x
  bytes : (r.get c).bytes = (m.get c).bytes
  can : canServe r c
  len : r.busy.length = m.busy.length
  back : mode ≠ 1 → Needs mode m c → (r.get c).srv.isSome = true → (r.e.at c).st ≠ 0
theorem lone_nodup {l : List Nat} (h : l.Nodup) (hm : ∀ d, d ∈ l ↔ d = c) : l = [c] := by
  cases l with
  | nil => have := (hm c).2 rfl; cases this
  | cons a t =>
    have ha := (hm a).1 List.mem_cons_self
    subst ha
    cases t with
    | nil => rfl
    | cons b t =>
      have hb := (hm b).1 (by simp)
      subst hb
      rw [List.nodup_cons] at h
      exact absurd List.mem_cons_self h.1
theorem lone_all (hc : c < 6) (h : MOk mode m) (hl : Lone m c) : Served mode m c (m.all houseO mode) := by
  refine all_ind (fun m => Lone m c) (fun m r => Served mode m c r) (fun m h hl ht => ?_) (fun m h hl ht => ?_) _ m (Nat.le_refl _) h hl
  · have hc' : c < m.cl.length := by rw [h.n6]; exact hc
    cases hf : m.firstR mode with
    | some x =>
      obtain ⟨hx6, hxr⟩ := first_some hf
      have hxc : x = c := Classical.byContradiction fun hne => by
        obtain ⟨r, l, hw, _⟩ := ready_wait hxr
        rw [hl.oth x hne] at hw; cases hw
      subst hxc
      obtain ⟨r, l, hw, hsv⟩ := ready_wait hxr
      have e : (m.step houseO mode).2 = m.proc houseO mode x := by unfold Mach.step; rw [hf]
      rw [e]
      have hg := fun d => proc_cl (mode := mode) hc' hw d
      have hgx : (m.proc houseO mode x).get x = { m.get x with wait := l, srv := if refB mode r = false ∧ mode ≠ 1 ∧ ((m.proc houseO mode x).e.at x).st = 0 then none else (m.get x).srv } := by rw [hg, if_pos rfl]
      have hcan : canServe (m.proc houseO mode x) x := by
        by_cases hfr : refB mode r = false ∧ mode ≠ 1 ∧ ((m.proc houseO mode x).e.at x).st = 0
        · right
          rw [hfr.1, Bool.or_false] at hsv
          obtain ⟨s, hs⟩ := Option.isSome_iff_exists.1 hsv
          have hn : ((m.proc houseO mode x).get x).srv = none := by rw [hgx]; simp only; rw [if_pos hfr]
          have hb := h.srv x s hs
          have hP := (h.proc (o := houseO) hx6 hxr).1
          rcases proc_busy (mode := mode) hw with e1 | e1
          · exfalso
            have hb2 : (m.proc houseO mode x).busy[s]? = some true := by rw [e1]; exact hb
            obtain ⟨y, hy⟩ := hP.own s hb2
            by_cases e2 : x = y
            · subst e2; rw [hn] at hy; cases hy
            · rw [hg, if_neg e2] at hy
              exact e2 (h.inj x y s hs hy)
          · rw [e1, hs]
            show false ∈ m.busy.set s false
            have hl : s < m.busy.length := (List.getElem?_eq_some_iff.1 hb).1
            exact List.mem_iff_getElem?.2 ⟨s, List.getElem?_set_self hl⟩
        · rcases hl.can with hcan | hcan
          · left; rw [hgx]; simp only; rw [if_neg hfr]; exact hcan
          · right
            rcases proc_busy (mode := mode) hw with e1 | e1
            · rw [e1]; exact hcan
            · rw [e1]
              obtain ⟨j, hj⟩ := List.mem_iff_getElem?.1 hcan
              by_cases ej : (m.get x).srv.getD 0 = j
              · rw [ej]; exact List.mem_iff_getElem?.2 ⟨j, List.getElem?_set_self (List.getElem?_eq_some_iff.1 hj).1⟩
              · exact List.mem_iff_getElem?.2 ⟨j, by rw [List.getElem?_set_ne ej]; exact hj⟩
      refine ⟨⟨by rw [proc_line']; exact hl.line, fun d hd => by rw [hg, if_neg (fun e => hd e.symm)]; exact hl.oth d hd, hcan⟩, fun r' hr' => ?_⟩
      refine ⟨?_, hr'.wait, hr'.line, fun y hy => ?_, ?_, hr'.can, ?_, fun hm hpre hsome => hr'.back hm (fun hs2 => ?_) hsome⟩
      · rw [hr'.d, hgx, proc_d hw, hw]; rfl
      · rw [hr'.oth y hy, hg, if_neg (fun e => hy e.symm)]
      · rw [hr'.bytes, hgx]
      · rw [hr'.len]
        rcases proc_busy (mode := mode) hw with e1 | e1 <;> rw [e1]
        simp
      · rw [hgx] at hs2 ⊢
        simp only at hs2 ⊢
        left
        by_cases hrf : refB mode r = false
        · intro h0
          rw [if_pos ⟨hrf, hm, h0⟩] at hs2; cases hs2
        · have hrf' : refB mode r = true := by simpa using hrf
          rw [if_neg (fun hh => hrf hh.1)] at hs2
          rcases hpre hs2 with h0 | ⟨r2, l2, hw2, hr2⟩
          · have ee : (m.proc houseO mode x).e = m.e := by
              unfold Mach.proc
              rw [hw]
              simp only
              rw [if_pos hrf']; rfl
            rw [ee]; exact h0
          · rw [hw] at hw2
            injection hw2 with e1 e2
            rw [e1, hr2] at hrf'; cases hrf'
    | none =>
      have e : (m.step houseO mode) = m.enq.assign houseO := by unfold Mach.step; rw [hf]
      rw [e] at ht ⊢
      have hq := h.enq hf
      have hmem : ∀ d, d ∈ m.enq.line ↔ d < 6 ∧ (m.get d).wait ≠ [] := fun d => by
        show d ∈ (List.range 6).foldl (enqL m) m.line ↔ _
        rw [enq_mem, hl.line, List.mem_range]
        simp
      have hwc : (m.get c).wait ≠ [] := fun hw => by
        have : m.enq.line = [] := List.eq_nil_iff_forall_not_mem.2 fun d hd => by
          obtain ⟨_, h2⟩ := (hmem d).1 hd
          by_cases e : d = c
          · subst e; exact h2 hw
          · exact h2 (hl.oth d e)
        unfold Mach.assign at ht
        rw [this] at ht; cases ht
      have hline : m.enq.line = [c] := lone_nodup (enq_nodup h.nodup) fun d => by
        rw [hmem]
        exact ⟨fun ⟨_, h2⟩ => Classical.byContradiction fun hne => h2 (hl.oth d hne), fun e => by subst e; exact ⟨hc, hwc⟩⟩
      have hnr := first_none hf hc
      cases hw : (m.get c).wait with
      | nil => exact absurd hw hwc
      | cons r l =>
      unfold readyB at hnr
      rw [hw] at hnr
      simp only [Bool.or_eq_false_iff] at hnr
      have hb : m.busy.idxOf false < m.busy.length := by
        unfold Mach.assign at ht
        rw [hline] at ht
        simp only at ht
        by_cases hb : m.enq.busy.idxOf false < m.enq.busy.length
        · exact hb
        · rw [if_neg hb] at ht; cases ht
      have ha : (m.enq.assign houseO).2 = { m with line := [], busy := m.busy.set (m.busy.idxOf false) true, cl := m.cl.set c { m.get c with srv := some (m.busy.idxOf false) } } := by
        unfold Mach.assign
        rw [hline]
        simp only
        rw [if_pos (by exact hb)]
        rfl
      rw [ha]
      have hg : ∀ d, Mach.get { m with line := [], busy := m.busy.set (m.busy.idxOf false) true, cl := m.cl.set c { m.get c with srv := some (m.busy.idxOf false) } } d = if c = d then { m.get c with srv := some (m.busy.idxOf false) } else m.get d := fun d => get_cl hc'
      refine ⟨⟨rfl, fun d hd => by rw [hg, if_neg (fun e => hd e.symm)]; exact hl.oth d hd, .inl (by rw [hg, if_pos rfl]; rfl)⟩, fun r' hr' => ?_⟩
      refine ⟨?_, hr'.wait, hr'.line, fun y hy => ?_, ?_, hr'.can, ?_, fun hm hpre hsome => hr'.back hm (fun hs2 => ?_) hsome⟩
      · rw [hr'.d, hg, if_pos rfl]; rfl
      · rw [hr'.oth y hy, hg, if_neg (fun e => hy e.symm)]
      · rw [hr'.bytes, hg, if_pos rfl]
      · rw [hr'.len]; simp
      · right
        exact ⟨r, l, by rw [hg, if_pos rfl]; exact hw, hnr.2⟩
  · cases hf : m.firstR mode with
    | some x => unfold Mach.step at ht; rw [hf] at ht; cases ht
    | none =>
      have e : (m.step houseO mode) = m.enq.assign houseO := by unfold Mach.step; rw [hf]
      rw [e] at ht ⊢
      rw [assign_no ht]
      have hc' : c < m.cl.length := by rw [h.n6]; exact hc
      have hmem : ∀ d, d ∈ m.enq.line ↔ d < 6 ∧ (m.get d).wait ≠ [] := fun d => by
        show d ∈ (List.range 6).foldl (enqL m) m.line ↔ _
        rw [enq_mem, hl.line, List.mem_range]
        simp
      have hwc : (m.get c).wait = [] := Classical.byContradiction fun hwc => by
        have hline : m.enq.line = [c] := lone_nodup (enq_nodup h.nodup) fun d => by
          rw [hmem]
          exact ⟨fun ⟨_, h2⟩ => Classical.byContradiction fun hne => h2 (hl.oth d hne), fun e => by subst e; exact ⟨hc, hwc⟩⟩
        have hnr := first_none hf hc
        have hsv : (m.get c).srv.isSome = false := by
          cases hw : (m.get c).wait with
          | nil => exact absurd hw hwc
          | cons r l =>
            unfold readyB at hnr
            rw [hw] at hnr
            simp only [Bool.or_eq_false_iff] at hnr
            exact hnr.1
        have hb : m.busy.idxOf false < m.busy.length := List.idxOf_lt_length_iff.2 (hl.can.resolve_left (by rw [hsv]; simp))
        unfold Mach.assign at ht
        rw [hline] at ht
        simp only at ht
        rw [if_pos (by exact hb)] at ht; cases ht
      have hnil : m.enq.line = [] := List.eq_nil_iff_forall_not_mem.2 fun d hd => by
        obtain ⟨_, h2⟩ := (hmem d).1 hd
        by_cases e : d = c
        · subst e; exact h2 hwc
        · exact h2 (hl.oth d e)
      refine ⟨by rw [hwc]; rfl, fun y => ?_, hnil, fun _ _ => rfl, rfl, hl.can, rfl, fun hm hpre hsome => ?_⟩
      · by_cases e : y = c
        · subst e; exact hwc
        · exact hl.oth y e
      · rcases hpre hsome with h0 | ⟨r, l, hw, _⟩
        · exact h0
        · rw [hwc] at hw; cases hw
end
end Go.Proofs.YtpbaobmegomfpabDoor

/-
  Plain mathematics: what all that a house does keeps.
-/
namespace Go.Proofs.YtpbaobmegomfpabDoor
open Go.RowKit
set_option linter.unusedVariables false

def upd {α : Type} (f : Nat → α) (c : Nat) (v : α) : Nat → α := fun x => if x = c then v else f x
def Mach.b (m : Mach Wd) : Nat → ByteArray := fun c => (m.get c).bytes
def Mach.q (m : Mach Wd) : Nat → List Req := fun c => (m.get c).wait
/-- a property of the world, of what was sent and done, and of what clients have sent -/
abbrev JP := D → (Nat → ByteArray) → (Nat → List Req) → Prop
structure Kept (mode : Int) (J : JP) : Prop where
  one : ∀ d b q c r l, c < 6 → q c = r :: l → r.fine → J d b q → J (d.one mode c r) b (upd q c l)
  feed : ∀ d b q c k t j, c < 6 → pull (b c) = some (k, t, j) → k ≠ 88 → J d b q → J d (upd b c ((b c).extract j (b c).size)) (upd q c (q c ++ [reqOf k t]))
  leave : ∀ d b q c, c < 6 → J d b q → J ⟨d.w.put c Sess.zero, d.sent, d.deeds⟩ (upd b c ⟨#[]⟩) (upd q c [])
def Mach.has (m : Mach Wd) (J : JP) : Prop := J m.d m.b m.q
section
variable {mode : Int} {J : JP} {m : Mach Wd} {c : Nat}
theorem step_has (K1 : ∀ d b q c r l, c < 6 → q c = r :: l → r.fine → J d b q → J (d.one mode c r) b (upd q c l)) (h : MOk mode m) (hj : m.has J) : (m.step houseO mode).2.has J := by
  unfold Mach.step
  cases hf : m.firstR mode with
  | some x =>
    obtain ⟨hx, hr⟩ := first_some hf
    obtain ⟨r, l, hw, _⟩ := ready_wait hr
    have hc' : x < m.cl.length := by rw [h.n6]; exact hx
    have hg := fun d => proc_cl (mode := mode) hc' hw d
    have := K1 m.d m.b m.q x r l hx hw (h.fine x r (by rw [hw]; exact List.mem_cons_self)) hj
    show J (m.proc houseO mode x).d (m.proc houseO mode x).b (m.proc houseO mode x).q
    have e1 : (m.proc houseO mode x).b = m.b := by
      funext d; show ((m.proc houseO mode x).get d).bytes = (m.get d).bytes
      rw [hg]; by_cases e : x = d
      · rw [if_pos e, e]
      · rw [if_neg e]
    have e2 : (m.proc houseO mode x).q = upd m.q x l := by
      funext d; show ((m.proc houseO mode x).get d).wait = if d = x then l else (m.get d).wait
      rw [hg]; by_cases e : x = d
      · rw [if_pos e, if_pos e.symm]
      · rw [if_neg e, if_neg (fun e' => e e'.symm)]
    rw [proc_d hw, e1, e2]; exact this
  | none =>
    show Mach.has (m.enq.assign houseO).2 J
    unfold Mach.assign
    cases hl : m.enq.line with
    | nil => exact hj
    | cons c l =>
      simp only
      split
      · have he : ∀ (q : Mach Wd) x d, q.cl = m.cl.set c { m.get c with srv := some x } → (q.get d).bytes = (m.get d).bytes ∧ (q.get d).wait = (m.get d).wait := fun q x d hq => by
          unfold Mach.get
          rw [hq, getD_set]
          by_cases e : c = d ∧ c < m.cl.length
          · rw [if_pos e]; obtain ⟨rfl, _⟩ := e; exact ⟨rfl, rfl⟩
          · rw [if_neg e]; exact ⟨rfl, rfl⟩
        have e1 : Mach.b { m.enq with line := l, busy := m.enq.busy.set (m.enq.busy.idxOf false) true, cl := m.enq.cl.set c { m.enq.get c with srv := some (m.enq.busy.idxOf false) }, e := houseO.grant m.enq.e c (m.enq.busy.idxOf false) } = m.b := funext fun d => (he _ _ d rfl).1
        have e2 : Mach.q { m.enq with line := l, busy := m.enq.busy.set (m.enq.busy.idxOf false) true, cl := m.enq.cl.set c { m.enq.get c with srv := some (m.enq.busy.idxOf false) }, e := houseO.grant m.enq.e c (m.enq.busy.idxOf false) } = m.q := funext fun d => (he _ _ d rfl).2
        unfold Mach.has
        rw [e1, e2]; exact hj
      · exact hj
theorem all_has (K1 : ∀ d b q c r l, c < 6 → q c = r :: l → r.fine → J d b q → J (d.one mode c r) b (upd q c l)) (h : MOk mode m) (hj : m.has J) : (m.all houseO mode).has J :=
  all_ind (fun m => m.has J) (fun _ r => r.has J) (fun m h hj _ => ⟨step_has K1 h hj, fun r hr => hr⟩) (fun m h hj _ => step_has K1 h hj) _ m (Nat.le_refl _) h hj
theorem Kept.all (K : Kept mode J) (h : MOk mode m) (hj : m.has J) : (m.all houseO mode).has J := all_has K.one h hj
theorem set_b (hc : c < m.cl.length) (x : Cl) : (m.set c x).b = upd m.b c x.bytes := by
  funext d; show ((m.set c x).get d).bytes = if d = c then x.bytes else (m.get d).bytes
  rw [get_set hc]; by_cases e : c = d
  · rw [if_pos e, if_pos e.symm]
  · rw [if_neg e, if_neg (fun e' => e e'.symm)]
theorem set_q (hc : c < m.cl.length) (x : Cl) : (m.set c x).q = upd m.q c x.wait := by
  funext d; show ((m.set c x).get d).wait = if d = c then x.wait else (m.get d).wait
  rw [get_set hc]; by_cases e : c = d
  · rw [if_pos e, if_pos e.symm]
  · rw [if_neg e, if_neg (fun e' => e e'.symm)]
theorem upd_self {α : Type} (f : Nat → α) (c : Nat) : upd f c (f c) = f := by
  funext x; unfold upd; split
  · rename_i h; rw [h]
  · rfl
theorem Kept.leave' (K : Kept mode J) (h : MOk mode m) (hc : c < 6) (hj : m.has J) : (m.leave houseO c).has J := by
  have hc' : c < m.cl.length := by rw [h.n6]; exact hc
  have e1 : (m.leave houseO c).b = upd m.b c ⟨#[]⟩ := set_b (m := m) hc' Cl.new
  have e2 : (m.leave houseO c).q = upd m.q c [] := set_q (m := m) hc' Cl.new
  unfold Mach.has
  rw [e1, e2]
  exact K.leave m.d m.b m.q c hc hj
theorem Kept.feed' (K : Kept mode J) (h : MOk mode m) (hc : c < 6) (hj : m.has J) (n : Nat) : (m.feed houseO mode n c).has J := by
  induction n generalizing m with
  | zero => exact hj
  | succ n ih =>
    have hc' : c < m.cl.length := by rw [h.n6]; exact hc
    unfold Mach.feed
    cases hp : pull (m.get c).bytes with
    | none => exact hj
    | some q =>
      obtain ⟨k, t, j⟩ := q
      simp only
      split
      · exact K.leave' h.all hc (K.all h hj)
      · rename_i hk
        refine ih (h.turn hc (fine_app (fun q hq => h.fine c q hq) (reqOf_fine k t)) rfl fun hl => ⟨by simp, ?_⟩) ?_
        · obtain ⟨_, _, h3, h4⟩ := h.line c hl
          exact ready_app h3 h4
        · have := K.feed m.d m.b m.q c k t j hc hp hk hj
          unfold Mach.has
          rw [set_b hc', set_q hc']
          exact this
/-- with an index: how much each client has sent -/
theorem act_lt {a : Act} (ha : actE a = 0) : a.c.toNat < 6 ∧ (a.c.toNat : Int) = a.c := by
  unfold actE at ha
  split at ha
  · cases ha
  split at ha
  · cases ha
  omega
theorem Kept.act (J : Nat → JP) (K : ∀ T, Kept mode (J T)) (hd : ∀ T d b q c data, c < 6 → J T d b q → J (T + 1) d (upd b c (b c ++ data)) q) (hcl : ∀ T d b q, J T d b q → J (T + 1) d b q) {T : Nat} (h : MOk mode m) (hj : m.has (J T)) {a : Act} (ha : actE a = 0) : (m.act houseO mode a).has (J (T + 1)) := by
  obtain ⟨hc, _⟩ := act_lt ha
  have hc' : a.c.toNat < m.cl.length := by rw [h.n6]; exact hc
  unfold Mach.act
  split
  · refine (K _).all (h.deliver hc _) ?_
    unfold Mach.deliver
    refine (K _).feed' (h.bytes hc _) hc ?_ _
    unfold Mach.has
    rw [set_b hc', set_q hc']
    have := hd T m.d m.b m.q a.c.toNat a.data hc hj
    show J (T + 1) m.d (upd m.b a.c.toNat (m.b a.c.toNat ++ a.data)) (upd m.q a.c.toNat (m.q a.c.toNat))
    rw [upd_self]; exact this
  · exact (K _).all (h.leave hc) ((K _).leave' h hc (hcl T _ _ _ hj))
end
section
variable {mode : Int} {m : Mach Wd}
/-- a property that does not look at bytes and requests -/
theorem run_keeps {I : D → Prop} (h1 : ∀ d c r, c < 6 → r.fine → I d → I (d.one mode c r)) (h2 : ∀ d c, c < 6 → I d → I ⟨d.w.put c Sess.zero, d.sent, d.deeds⟩) : ∀ {l : List Act} {m : Mach Wd}, MOk mode m → I m.d → actsE l = 0 → I (m.run houseO mode l).d
  | [], m, _, hi, _ => hi
  | a :: l, m, h, hi, hl => by
    have K : ∀ T : Nat, Kept mode (fun d _ _ => I d) := fun _ => ⟨fun d b q c r l hc _ hr hi => h1 d c r hc hr hi, fun d b q c k t j _ _ _ hi => hi, fun d b q c hc hi => h2 d c hc hi⟩
    have := Kept.act (fun _ => fun d _ _ => I d) K (fun T d b q c data _ hi => hi) (fun T d b q hi => hi) (T := 0) h hi (actsE_cons hl).1
    exact run_keeps h1 h2 (l := l) (h.act (actsE_cons hl).1) this (actsE_cons hl).2
end
theorem one_w {mode : Int} {d : D} {c : Nat} {r : Req} : (d.one mode c r).w = if refB mode r then d.w else (doR d.w c r).1 := by
  unfold D.one; split <;> rfl
theorem one_deeds {mode : Int} {d : D} {c : Nat} {r : Req} : (d.one mode c r).deeds = if refB mode r then d.deeds else d.deeds ++ [⟨c, r, (doR d.w c r).2, ((doR d.w c r).1.at c).st⟩] := by
  unfold D.one; split <;> rfl
theorem fine_ok {mode : Int} {r : Req} (h : r.fine) (hr : ¬ refB mode r = true) : r.ok := by
  rcases h with e | e
  · exact absurd (by rw [e]; rfl) hr
  · exact e
/-- the world of a house may be -/
def HOk (d : D) : Prop := WorldOk d.w ∧ d.w.ss.length = 6
theorem hok_one {mode : Int} {d : D} {c : Nat} {r : Req} (hc : c < 6) (hr : r.fine) (h : HOk d) : HOk (d.one mode c r) := by
  unfold HOk
  rw [one_w]
  split
  · exact h
  · rename_i hn
    have := doR_ok h.1 (i := c) (by rw [h.2]; exact hc) (fine_ok hr hn)
    exact ⟨this.1, this.2.trans h.2⟩
theorem hok_leave {d : D} {c : Nat} (hc : c < 6) (h : HOk d) : HOk ⟨d.w.put c Sess.zero, d.sent, d.deeds⟩ :=
  ⟨wput_ok h.1 (by rw [h.2]; exact hc) zero_ok (fun p hp => by cases hp), by show (d.w.put c _).ss.length = 6; rw [wput_len]; exact h.2⟩
theorem hok_start (n : Nat) : HOk (Mach.start houseStart n).d := ⟨zeros_ok (by omega), by simp [Mach.start, Mach.d, houseStart]⟩

/-- TopLeak: a setting of a client was set by itself -/
def SetBy (ds : List Deed) (c : Nat) (p : ByteArray × ByteArray) : Prop := ∃ x ∈ ds, x.c = c ∧ x.r = ⟨9, p.1, p.2⟩ ∧ x.a.kind = 1
structure LeakI (d : D) : Prop where
  ok : HOk d
  set : ∀ c, c < 6 → ∀ p ∈ (d.w.at c).set, SetBy d.deeds c p
  sav : ∀ c, c < 6 → ∀ p ∈ (d.w.at c).sav, SetBy d.deeds c p
  got : ∀ i (hi : i < d.deeds.length), d.deeds[i].r.k = 6 → d.deeds[i].a.kind = 2 → SetBy (d.deeds.take i) d.deeds[i].c (d.deeds[i].r.key, d.deeds[i].a.text)
theorem SetBy.more {ds : List Deed} {c : Nat} {p : ByteArray × ByteArray} (h : SetBy ds c p) (x : Deed) : SetBy (ds ++ [x]) c p := by
  obtain ⟨y, hy, r⟩ := h
  exact ⟨y, List.mem_append_left _ hy, r⟩
/-- what a statement does to the lists of settings of its session -/
def SetTo (W : Wd) (c : Nat) (k : Int) (key val : ByteArray) (r : Wd × Ans) : Prop :=
  (∀ p, p ∈ (r.1.at c).set ∨ p ∈ (r.1.at c).sav → p ∈ (W.at c).set ∨ p ∈ (W.at c).sav ∨ (k = 9 ∧ p = (key, val) ∧ r.2.kind = 1)) ∧ (k = 6 → r.2.kind = 2 → (key, r.2.text) ∈ (W.at c).set)
section
variable {W : Wd} {c : Nat}
theorem did1_setTo (hc : c < W.ss.length) (k : Int) (key val : ByteArray) : SetTo W c k key val (did1 W c k key val) := by
  have same : ∀ a, a.kind ≠ 2 → SetTo W c k key val (W, a) := fun a ha => ⟨fun p hp => hp.imp_right .inl, fun _ h => absurd h ha⟩
  have put : ∀ (x : Sess), (∀ p, p ∈ x.set ∨ p ∈ x.sav → p ∈ (W.at c).set ∨ p ∈ (W.at c).sav ∨ (k = 9 ∧ p = (key, val))) → SetTo W c k key val (W.put c x, ok') := fun x hx => by
    refine ⟨fun p hp => ?_, fun _ h => absurd h (by show ¬ (1 : Int) = 2; decide)⟩
    simp only [wput_at hc] at hp
    rcases hx p hp with h | h | h
    · exact .inl h
    · exact .inr (.inl h)
    · exact .inr (.inr ⟨h.1, h.2, rfl⟩)
  have n4 : ∀ t, (no' t).kind ≠ 2 := fun t => by show ¬ (4 : Int) = 2; decide
  unfold did1
  simp only
  refine sav_ite (fun _ => same _ (n4 _)) fun _ => sav_ite (fun _ => sav_ite (fun _ => put _ fun p hp => ?_) fun _ => same _ (n4 _)) fun _ => sav_ite (fun _ => sav_ite (fun _ => same _ (n4 _)) fun _ => sav_ite (fun _ => ?_) fun _ => put _ fun p hp => ?_) fun _ => sav_ite (fun _ => sav_ite (fun _ => put _ fun p hp => ?_) fun _ => same _ (n4 _)) fun _ => ?_
  · rcases hp with hp | hp <;> exact .inl hp
  · have e : (⟨plusF W.rows (W.at c).wr, W.ss.set c { W.at c with st := 0, sav := [], wr := [] }⟩ : Wd).at c = { W.at c with st := 0, sav := [], wr := [] } := by rw [set_at hc, if_pos rfl]
    refine ⟨fun p hp => ?_, fun _ h => absurd h (by show ¬ (1 : Int) = 2; decide)⟩
    simp only [e] at hp
    rcases hp with hp | hp
    · exact .inl hp
    · cases hp
  · rcases hp with hp | hp
    · exact .inr (.inl hp)
    · cases hp
  · rcases hp with hp | hp
    · cases hp
    · exact .inr (.inl hp)
  refine sav_ite (fun h6 => ⟨fun p hp => hp.imp_right .inl, fun _ h => ?_⟩) fun h6 => sav_ite (fun h7 => ⟨fun p hp => hp.imp_right .inl, fun h _ => absurd h h6⟩) fun h7 => sav_ite (fun h9 => sav_ite (fun _ => same _ (n4 _)) fun _ => put _ fun p hp => ?_) fun _ => ?_
  · cases ha : atL (W.at c).set key with
    | none => rw [ha] at h; exact absurd h (by show ¬ (3 : Int) = 2; decide)
    | some v => rw [ha] at h; exact atL_mem ha
  · rcases hp with hp | hp
    · rcases plusL_mem hp with e | hp
      · exact .inr (.inr ⟨h9, e⟩)
      · exact .inl hp
    · exact .inr (.inl hp)
  refine sav_ite (fun _ => sav_ite (fun _ => same _ (n4 _)) fun _ => sav_ite (fun _ => same _ (n4 _)) fun _ => sav_ite (fun _ => put _ fun p hp => ?_) fun _ => ⟨fun p hp => hp.imp_right .inl, fun _ h => absurd h (by show ¬ (1 : Int) = 2; decide)⟩) fun _ => sav_ite (fun _ => sav_ite (fun _ => same _ (n4 _)) fun _ => put _ fun p hp => ?_) fun _ => same _ (n4 _)
  · rcases hp with hp | hp
    · exact .inl hp
    · exact .inr (.inl hp)
  · rcases hp with hp | hp
    · exact .inl hp
    · exact .inr (.inl hp)
theorem doR_setTo (h : WorldOk W) (hc : c < W.ss.length) (r : Req) : SetTo W c r.k r.key r.val (doR W c r) := by
  have hd : SetTo W c r.k r.key r.val (didM W c r.k r.key r.val) := by
    unfold didM
    refine sav_ite (fun h8 => sav_ite (fun _ => ⟨fun p hp => hp.imp_right .inl, fun h => by omega⟩) fun _ => ?_) fun _ => did1_setTo hc _ _ _
    cases ha : atL (W.at c).prep r.key with
    | none => exact ⟨fun p hp => hp.imp_right .inl, fun h => by omega⟩
    | some t =>
      have hp := prep_stmt (sess_at h hc).prep ha
      have := did1_setTo (W := W) hc (kindN (cutA t)) (cutA (cutB t)) (cutB (cutB t))
      refine ⟨fun p hp' => ?_, fun h => by omega⟩
      rcases this.1 p hp' with h1 | h1 | h1
      · exact .inl h1
      · exact .inr (.inl h1)
      · have := h1.1; omega
  unfold doR doM
  simp only
  refine sav_ite (fun hk => ?_) (fun _ => hd)
  have hl : c < (didM W c r.k r.key r.val).1.ss.length := by
    rcases Nat.lt_or_ge c (didM W c r.k r.key r.val).1.ss.length with h' | h'
    · exact h'
    · have := hk.2
      unfold Wd.at at this
      rw [List.getD_eq_getElem?_getD, List.getElem?_eq_none h'] at this
      cases this
  refine ⟨fun p hp => hd.1 p ?_, hd.2⟩
  simp only [wput_at hl] at hp
  exact hp
end
theorem other_at {W : Wd} (h : WorldOk W) {c : Nat} (hc : c < W.ss.length) (r : Req) {x : Nat} (hx : x ≠ c) : (doR W c r).1.at x = W.at x := by
  obtain ⟨rows, y, a, e⟩ := doM_form h hc r.k r.key r.val
  unfold doR
  rw [e, set_at hc, if_neg (fun e => hx e.symm)]
theorem leak_one {mode : Int} {d : D} {c : Nat} {r : Req} (hc : c < 6) (hr : r.fine) (h : LeakI d) : LeakI (d.one mode c r) := by
  by_cases hf : refB mode r = true
  · have e1 : (d.one mode c r).w = d.w := by rw [one_w, if_pos hf]
    have e2 : (d.one mode c r).deeds = d.deeds := by rw [one_deeds, if_pos hf]
    exact ⟨hok_one hc hr h.ok, by rw [e1, e2]; exact h.set, by rw [e1, e2]; exact h.sav, by rw [e2]; exact h.got⟩
  · have hc' : c < d.w.ss.length := by rw [h.ok.2]; exact hc
    have e1 : (d.one mode c r).w = (doR d.w c r).1 := by rw [one_w, if_neg hf]
    have e2 : (d.one mode c r).deeds = d.deeds ++ [⟨c, r, (doR d.w c r).2, ((doR d.w c r).1.at c).st⟩] := by rw [one_deeds, if_neg hf]
    have hs := doR_setTo h.ok.1 hc' r
    have key : ∀ x, x < 6 → ∀ p, p ∈ ((doR d.w c r).1.at x).set ∨ p ∈ ((doR d.w c r).1.at x).sav → SetBy (d.deeds ++ [⟨c, r, (doR d.w c r).2, ((doR d.w c r).1.at c).st⟩]) x p := fun x hx p hp => by
      by_cases e : x = c
      · subst e
        rcases hs.1 p hp with h1 | h1 | ⟨h1, h2, h3⟩
        · exact (h.set x hx p h1).more _
        · exact (h.sav x hx p h1).more _
        · refine ⟨_, List.mem_append_right _ List.mem_cons_self, rfl, ?_, h3⟩
          rw [h2]
          cases r
          simp only at h1 ⊢
          rw [h1]
      · rw [other_at h.ok.1 hc' r e] at hp
        rcases hp with hp | hp
        · exact (h.set x hx p hp).more _
        · exact (h.sav x hx p hp).more _
    refine ⟨hok_one hc hr h.ok, fun x hx p hp => ?_, fun x hx p hp => ?_, ?_⟩
    · rw [e1] at hp; rw [e2]; exact key x hx p (.inl hp)
    · rw [e1] at hp; rw [e2]; exact key x hx p (.inr hp)
    · rw [e2]
      intro i hi h6 h2
      by_cases hl : i < d.deeds.length
      · rw [List.getElem_append_left hl] at h6 h2 ⊢
        rw [List.take_append_of_le_length (by omega)]
        exact h.got i hl h6 h2
      · have hi' : i = d.deeds.length := by simp at hi; omega
        subst hi'
        simp only [List.getElem_concat_length] at h6 h2 ⊢
        rw [List.take_append_of_le_length (Nat.le_refl _), List.take_length]
        exact h.set c hc _ (hs.2 h6 h2)
theorem leak_leave {d : D} {c : Nat} (hc : c < 6) (h : LeakI d) : LeakI ⟨d.w.put c Sess.zero, d.sent, d.deeds⟩ := by
  have hc' : c < d.w.ss.length := by rw [h.ok.2]; exact hc
  have e : ∀ x, (d.w.put c Sess.zero).at x = if c = x then Sess.zero else d.w.at x := fun x => set_at hc' _ _ _
  refine ⟨hok_leave hc h.ok, fun x hx p hp => ?_, fun x hx p hp => ?_, h.got⟩
  · simp only [e] at hp
    by_cases e' : c = x
    · rw [if_pos e'] at hp; cases hp
    · rw [if_neg e'] at hp; exact h.set x hx p hp
  · simp only [e] at hp
    by_cases e' : c = x
    · rw [if_pos e'] at hp; cases hp
    · rw [if_neg e'] at hp; exact h.sav x hx p hp
theorem house_at (x : Nat) : houseStart.at x = Sess.zero := zeros_at _ _ _
theorem leak_start (n : Nat) : LeakI (Mach.start houseStart n).d := by
  refine ⟨hok_start n, fun x hx p hp => ?_, fun x hx p hp => ?_, fun i hi => absurd hi (by simp [Mach.start, Mach.d])⟩
  · have : p ∈ (houseStart.at x).set := hp
    rw [house_at] at this; cases this
  · have : p ∈ (houseStart.at x).sav := hp
    rw [house_at] at this; cases this
/-- TopLeak in plain mathematics -/
theorem leak_run {mode : Int} {n : Nat} {l : List Act} (hl : actsE l = 0) : LeakI ((Mach.start houseStart n).run houseO mode l).d :=
  run_keeps (fun d c r hc hr h => leak_one hc hr h) (fun d c hc h => leak_leave hc h) (start_ok _ _ _) (leak_start n) hl

/-- TopCommitted: who wrote a row was answered accordingly -/
def PutBy (ds : List Deed) (p : ByteArray × ByteArray) : Prop := ∃ x ∈ ds, x.a.kind = 1 ∧ (x.r = ⟨10, p.1, p.2⟩ ∨ x.r.k = 8)
structure RowI (d : D) : Prop where
  ok : HOk d
  rows : ∀ p ∈ d.w.rows, PutBy d.deeds p
  wr : ∀ c, c < 6 → ∀ p ∈ (d.w.at c).wr, PutBy d.deeds p
theorem PutBy.more {ds : List Deed} {p : ByteArray × ByteArray} (h : PutBy ds p) (x : Deed) : PutBy (ds ++ [x]) p := by
  obtain ⟨y, hy, r⟩ := h
  exact ⟨y, List.mem_append_left _ hy, r⟩
def RowTo' (W : Wd) (c : Nat) (k : Int) (key val : ByteArray) (r : Wd × Ans) : Prop :=
  ∀ p, p ∈ r.1.rows ∨ p ∈ (r.1.at c).wr → p ∈ W.rows ∨ p ∈ (W.at c).wr ∨ (k = 10 ∧ p = (key, val) ∧ r.2.kind = 1)
section
variable {W : Wd} {c : Nat}
theorem did1_rowTo (hc : c < W.ss.length) (k : Int) (key val : ByteArray) : RowTo' W c k key val (did1 W c k key val) := by
  have same : ∀ a, RowTo' W c k key val (W, a) := fun a p hp => hp.imp_right .inl
  have put : ∀ (x : Sess), (∀ p, p ∈ x.wr → p ∈ (W.at c).wr ∨ (k = 10 ∧ p = (key, val))) → RowTo' W c k key val (W.put c x, ok') := fun x hx p hp => by
    simp only [wput_at hc] at hp
    rcases hp with hp | hp
    · exact .inl hp
    · rcases hx p hp with h | h
      · exact .inr (.inl h)
      · exact .inr (.inr ⟨h.1, h.2, rfl⟩)
  unfold did1
  simp only
  refine sav_ite (fun _ => same _) fun _ => sav_ite (fun _ => sav_ite (fun _ => put _ fun p hp => .inl hp) fun _ => same _) fun _ => sav_ite (fun _ => sav_ite (fun _ => same _) fun _ => sav_ite (fun _ p hp => ?_) fun _ => put _ fun p hp => by cases hp) fun _ => sav_ite (fun _ => sav_ite (fun _ => put _ fun p hp => .inl hp) fun _ => same _) fun _ => ?_
  · have e : (⟨plusF W.rows (W.at c).wr, W.ss.set c { W.at c with st := 0, sav := [], wr := [] }⟩ : Wd).at c = { W.at c with st := 0, sav := [], wr := [] } := by rw [set_at hc, if_pos rfl]
    simp only [e] at hp
    rcases hp with hp | hp
    · rcases plusF_mem hp with hp | hp
      · exact .inl hp
      · exact .inr (.inl hp)
    · cases hp
  refine sav_ite (fun _ => same _) fun _ => sav_ite (fun _ => same _) fun _ => sav_ite (fun _ => sav_ite (fun _ => same _) fun _ => put _ fun p hp => .inl hp) fun _ => sav_ite (fun h10 => sav_ite (fun _ => same _) fun _ => sav_ite (fun _ => same _) fun _ => sav_ite (fun _ => put _ fun p hp => ?_) fun _ p hp => ?_) fun _ => sav_ite (fun _ => sav_ite (fun _ => same _) fun _ => put _ fun p hp => .inl hp) fun _ => same _
  · rcases plusL_mem hp with e | hp
    · exact .inr ⟨h10, e⟩
    · exact .inl hp
  · rcases hp with hp | hp
    · rcases plusL_mem hp with e | hp
      · exact .inr (.inr ⟨h10, e, rfl⟩)
      · exact .inl hp
    · exact .inr (.inl hp)
theorem doR_rowTo (h : WorldOk W) (hc : c < W.ss.length) (r : Req) : ∀ p, p ∈ (doR W c r).1.rows ∨ p ∈ ((doR W c r).1.at c).wr → p ∈ W.rows ∨ p ∈ (W.at c).wr ∨ ((doR W c r).2.kind = 1 ∧ (r = ⟨10, p.1, p.2⟩ ∨ r.k = 8)) := by
  have hd : ∀ p, p ∈ (didM W c r.k r.key r.val).1.rows ∨ p ∈ ((didM W c r.k r.key r.val).1.at c).wr → p ∈ W.rows ∨ p ∈ (W.at c).wr ∨ ((didM W c r.k r.key r.val).2.kind = 1 ∧ (r = ⟨10, p.1, p.2⟩ ∨ r.k = 8)) := by
    unfold didM
    by_cases h8 : r.k = 8
    · rw [if_pos h8]
      intro p
      by_cases h2 : (W.at c).st = 2
      · rw [if_pos h2]; exact fun hp => hp.imp_right .inl
      · rw [if_neg h2]
        cases ha : atL (W.at c).prep r.key with
        | none => exact fun hp => hp.imp_right .inl
        | some t =>
          intro hp
          rcases did1_rowTo (W := W) hc _ _ _ p hp with h1 | h1 | h1
          · exact .inl h1
          · exact .inr (.inl h1)
          · exact .inr (.inr ⟨h1.2.2, .inr h8⟩)
    · rw [if_neg h8]
      intro p hp
      rcases did1_rowTo (W := W) hc _ _ _ p hp with h1 | h1 | ⟨h1, h2, h3⟩
      · exact .inl h1
      · exact .inr (.inl h1)
      · refine .inr (.inr ⟨h3, .inl ?_⟩)
        rw [h2]
        cases r
        simp only at h1 ⊢
        rw [h1]
  unfold doR doM
  simp only
  by_cases hk : (didM W c r.k r.key r.val).2.kind = 4 ∧ ((didM W c r.k r.key r.val).1.at c).st = 1
  · rw [if_pos hk]
    have hl : c < (didM W c r.k r.key r.val).1.ss.length := by
      rcases Nat.lt_or_ge c (didM W c r.k r.key r.val).1.ss.length with h' | h'
      · exact h'
      · have := hk.2
        unfold Wd.at at this
        rw [List.getD_eq_getElem?_getD, List.getElem?_eq_none h'] at this
        cases this
    intro p hp
    refine hd p ?_
    simp only [wput_at hl] at hp
    rcases hp with hp | hp
    · exact .inl hp
    · cases hp
  · rw [if_neg hk]; exact hd
end
theorem row_one {mode : Int} {d : D} {c : Nat} {r : Req} (hc : c < 6) (hr : r.fine) (h : RowI d) : RowI (d.one mode c r) := by
  by_cases hf : refB mode r = true
  · have e1 : (d.one mode c r).w = d.w := by rw [one_w, if_pos hf]
    have e2 : (d.one mode c r).deeds = d.deeds := by rw [one_deeds, if_pos hf]
    exact ⟨hok_one hc hr h.ok, by rw [e1, e2]; exact h.rows, by rw [e1, e2]; exact h.wr⟩
  · have hc' : c < d.w.ss.length := by rw [h.ok.2]; exact hc
    have e1 : (d.one mode c r).w = (doR d.w c r).1 := by rw [one_w, if_neg hf]
    have e2 : (d.one mode c r).deeds = d.deeds ++ [⟨c, r, (doR d.w c r).2, ((doR d.w c r).1.at c).st⟩] := by rw [one_deeds, if_neg hf]
    have hs := doR_rowTo h.ok.1 hc' r
    have key : ∀ p, p ∈ (doR d.w c r).1.rows ∨ p ∈ ((doR d.w c r).1.at c).wr → PutBy (d.deeds ++ [⟨c, r, (doR d.w c r).2, ((doR d.w c r).1.at c).st⟩]) p := fun p hp => by
      rcases hs p hp with h1 | h1 | ⟨h1, h2⟩
      · exact (h.rows p h1).more _
      · exact (h.wr c hc p h1).more _
      · exact ⟨_, List.mem_append_right _ List.mem_cons_self, h1, h2⟩
    refine ⟨hok_one hc hr h.ok, fun p hp => ?_, fun x hx p hp => ?_⟩
    · rw [e1] at hp; rw [e2]; exact key p (.inl hp)
    · rw [e1] at hp; rw [e2]
      by_cases e : x = c
      · subst e; exact key p (.inr hp)
      · rw [other_at h.ok.1 hc' r e] at hp; exact (h.wr x hx p hp).more _
theorem row_leave {d : D} {c : Nat} (hc : c < 6) (h : RowI d) : RowI ⟨d.w.put c Sess.zero, d.sent, d.deeds⟩ := by
  have hc' : c < d.w.ss.length := by rw [h.ok.2]; exact hc
  have e : ∀ x, (d.w.put c Sess.zero).at x = if c = x then Sess.zero else d.w.at x := fun x => set_at hc' _ _ _
  refine ⟨hok_leave hc h.ok, h.rows, fun x hx p hp => ?_⟩
  simp only [e] at hp
  by_cases e' : c = x
  · rw [if_pos e'] at hp; cases hp
  · rw [if_neg e'] at hp; exact h.wr x hx p hp
theorem row_start (n : Nat) : RowI (Mach.start houseStart n).d := by
  refine ⟨hok_start n, (fun p hp => by cases hp), fun x hx p hp => ?_⟩
  have : p ∈ (houseStart.at x).wr := hp
  rw [house_at] at this; cases this
/-- TopCommitted in plain mathematics -/
theorem row_run {mode : Int} {n : Nat} {l : List Act} (hl : actsE l = 0) : RowI ((Mach.start houseStart n).run houseO mode l).d :=
  run_keeps (fun d c r hc hr h => row_one hc hr h) (fun d c hc h => row_leave hc h) (start_ok _ _ _) (row_start n) hl

end Go.Proofs.YtpbaobmegomfpabDoor

